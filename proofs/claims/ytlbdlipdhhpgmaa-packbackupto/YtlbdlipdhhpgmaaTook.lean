/- The statement's take, of a reader that has not failed, and of one that has. -/
import Derived.Test.YtlbdlipdhhpgmaaThing
namespace Go.Proofs.Ytlbdlipdhhpgmaa
open Go.RowKit

/-- What take leaves. -/
def TookP (b : Nat) (k l N : Int) (S : ByteArray) (E : Int) (R : ByteArray) (w : World) (x : Ending) (w' : World) : Prop :=
  x = .returned (.agg #[.int .i64 k, .int .i64 l, .int .u64 N, .string S]) ∧ Rd w' b (restR E R) E ∧ Upd b w w'
theorem Upd.setNew {b : Nat} {x y : World} (h : Upd b x y) (g i : Nat) (v : Value) (hg : x.heap.size ≤ g) : Upd b x (y.setCell ⟨g, i, none⟩ v) :=
  ⟨h.os, h.tape, h.output, by have := h.size; simp; omega, fun k hk hb => (heap_setCell_other y ⟨g, i, none⟩ k v (by show k ≠ g; omega)).trans (h.block k hk hb)⟩
/-- The three blocks that take lays first. -/
theorem took_facts (b : Nat) (s0 : ByteArray) (E k l : Int) (n : Nat) (s : ByteArray) (w : World) (m : Nat) (hm : w.heap.size = m) (hr : Rd w b s0 E) :
    Rd (((w.alloc (.cells #[.int .i64 k, .int .i64 l, .int .u64 (n : Int), .string s] 33)).alloc (.cells #[.int .i64 0, .int .i64 0, .int .u64 0, .string ⟨#[]⟩] 33)).alloc (.cells #[.int .i64 k, .int .i64 l, .int .u64 0, .string ⟨#[]⟩] 33)) b s0 E ∧
    Holds (((w.alloc (.cells #[.int .i64 k, .int .i64 l, .int .u64 (n : Int), .string s] 33)).alloc (.cells #[.int .i64 0, .int .i64 0, .int .u64 0, .string ⟨#[]⟩] 33)).alloc (.cells #[.int .i64 k, .int .i64 l, .int .u64 0, .string ⟨#[]⟩] 33)) m [.int .i64 k, .int .i64 l, .int .u64 (n : Int), .string s] 33 ∧
    Holds (((w.alloc (.cells #[.int .i64 k, .int .i64 l, .int .u64 (n : Int), .string s] 33)).alloc (.cells #[.int .i64 0, .int .i64 0, .int .u64 0, .string ⟨#[]⟩] 33)).alloc (.cells #[.int .i64 k, .int .i64 l, .int .u64 0, .string ⟨#[]⟩] 33)) (m + 1) [.int .i64 0, .int .i64 0, .int .u64 0, .string ⟨#[]⟩] 33 ∧
    Holds (((w.alloc (.cells #[.int .i64 k, .int .i64 l, .int .u64 (n : Int), .string s] 33)).alloc (.cells #[.int .i64 0, .int .i64 0, .int .u64 0, .string ⟨#[]⟩] 33)).alloc (.cells #[.int .i64 k, .int .i64 l, .int .u64 0, .string ⟨#[]⟩] 33)) (m + 1 + 1) [.int .i64 k, .int .i64 l, .int .u64 0, .string ⟨#[]⟩] 33 ∧
    Upd b w (((w.alloc (.cells #[.int .i64 k, .int .i64 l, .int .u64 (n : Int), .string s] 33)).alloc (.cells #[.int .i64 0, .int .i64 0, .int .u64 0, .string ⟨#[]⟩] 33)).alloc (.cells #[.int .i64 k, .int .i64 l, .int .u64 0, .string ⟨#[]⟩] 33)) := by
  subst hm
  refine ⟨((hr.alloc _).alloc _).alloc _, ((holds_new w _ _).alloc _).alloc _, ?_, ?_, (((Upd.refl b w).alloc _).alloc _).alloc _⟩
  · have := holds_new (w.alloc (.cells #[.int .i64 k, .int .i64 l, .int .u64 (n : Int), .string s] 33)) [.int .i64 0, .int .i64 0, .int .u64 0, .string ⟨#[]⟩] 33
    simp only [World.size_alloc] at this
    exact this.alloc _
  · have := holds_new ((w.alloc (.cells #[.int .i64 k, .int .i64 l, .int .u64 (n : Int), .string s] 33)).alloc (.cells #[.int .i64 0, .int .i64 0, .int .u64 0, .string ⟨#[]⟩] 33)) [.int .i64 k, .int .i64 l, .int .u64 0, .string ⟨#[]⟩] 33
    simp only [World.size_alloc] at this
    exact this
/-- What stands behind the last stores. -/
theorem took_end {b m : Nat} {s1 : ByteArray} {E : Int} {w w1 : World} (hr : Rd w1 b s1 E) (hu : Upd b w w1) (hm : w.heap.size = m) (hb : b < m) {z0 z1 z2 z3 : Value} (hQ : Holds w1 (m + 1) [z0, z1, z2, z3] 33) (c : Nat) (x a0 a1 a2 a3 : Value) :
    Holds (((((w1.setCell ⟨m + 1 + 1, c, none⟩ x).setCell ⟨m + 1, 0, none⟩ a0).setCell ⟨m + 1, 1, none⟩ a1).setCell ⟨m + 1, 2, none⟩ a2).setCell ⟨m + 1, 3, none⟩ a3) (m + 1) [a0, a1, a2, a3] 33 ∧
    Rd (((((w1.setCell ⟨m + 1 + 1, c, none⟩ x).setCell ⟨m + 1, 0, none⟩ a0).setCell ⟨m + 1, 1, none⟩ a1).setCell ⟨m + 1, 2, none⟩ a2).setCell ⟨m + 1, 3, none⟩ a3) b s1 E ∧
    Upd b w (((((w1.setCell ⟨m + 1 + 1, c, none⟩ x).setCell ⟨m + 1, 0, none⟩ a0).setCell ⟨m + 1, 1, none⟩ a1).setCell ⟨m + 1, 2, none⟩ a2).setCell ⟨m + 1, 3, none⟩ a3) :=
  ⟨((((hQ.setOther _ _ _ (by omega)).set 0 a0).set 1 a1).set 2 a2).set 3 a3,
   ((((hr.setOther _ _ _ (by omega)).setOther _ _ _ (by omega)).setOther _ _ _ (by omega)).setOther _ _ _ (by omega)).setOther _ _ _ (by omega),
   ((((hu.setNew _ _ _ (by omega)).setNew _ _ _ (by omega)).setNew _ _ _ (by omega)).setNew _ _ _ (by omega)).setNew _ _ _ (by omega)⟩
theorem took_end0 {b m : Nat} {s1 : ByteArray} {E : Int} {w w1 : World} (hr : Rd w1 b s1 E) (hu : Upd b w w1) (hm : w.heap.size = m) (hb : b < m) {z0 z1 z2 z3 : Value} (hQ : Holds w1 (m + 1) [z0, z1, z2, z3] 33) (a0 a1 a2 a3 : Value) :
    Holds ((((w1.setCell ⟨m + 1, 0, none⟩ a0).setCell ⟨m + 1, 1, none⟩ a1).setCell ⟨m + 1, 2, none⟩ a2).setCell ⟨m + 1, 3, none⟩ a3) (m + 1) [a0, a1, a2, a3] 33 ∧
    Rd ((((w1.setCell ⟨m + 1, 0, none⟩ a0).setCell ⟨m + 1, 1, none⟩ a1).setCell ⟨m + 1, 2, none⟩ a2).setCell ⟨m + 1, 3, none⟩ a3) b s1 E ∧
    Upd b w ((((w1.setCell ⟨m + 1, 0, none⟩ a0).setCell ⟨m + 1, 1, none⟩ a1).setCell ⟨m + 1, 2, none⟩ a2).setCell ⟨m + 1, 3, none⟩ a3) :=
  ⟨(((hQ.set 0 a0).set 1 a1).set 2 a2).set 3 a3,
   (((hr.setOther _ _ _ (by omega)).setOther _ _ _ (by omega)).setOther _ _ _ (by omega)).setOther _ _ _ (by omega),
   (((hu.setNew _ _ _ (by omega)).setNew _ _ _ (by omega)).setNew _ _ _ (by omega)).setNew _ _ _ (by omega)⟩

set_option maxHeartbeats 1600000 in
set_option maxRecDepth 100000 in
theorem took_int (b : Nat) (s0 : ByteArray) (hs : s0.size < 9223372036854775808) (l : Int) (n : Nat) (s : ByteArray) (w : World) (hr : Rd w b s0 0) :
    Calls Try.prog 19 #[.pointer (some ⟨b, 0, none⟩), .agg #[.int .i64 1, .int .i64 l, .int .u64 (n : Int), .string s]] w (TookP b 1 l (IntKind.u64.wrap (intV (nV s0))) (⟨#[]⟩) (nE s0) (nR s0) w) := by
  have con : Hid (∀ W, Rd W b s0 0 → Calls Try.prog 37 #[.pointer (some ⟨b, 0, none⟩)] W (TakeP b (.int .i64 (intV (nV s0))) (nE s0) (nR s0) W)) := fun W hW => int_ok b s0 hs W hW
  generalize nE s0 = E at *
  generalize nR s0 = R at *
  obtain ⟨m, hm⟩ : ∃ m, w.heap.size = m := ⟨_, rfl⟩
  have hbm : b < m := hm ▸ hr.lt
  obtain ⟨r0, _, hQ0, hO0, u0⟩ := took_facts b s0 0 1 l n s w m hm hr
  go_enter Try.func19, Try.ntmps19
  go_wp2_with (go_at_call 37; refine (con.out _ r0).mono ?_; rintro e w1 ⟨rfl, h1, u1⟩; have hO := hO0.upd u1 (by omega); have hQ := hQ0.upd u1 (by omega); have o0 := hO.at 0 _ rfl; have o1 := hO.at 1 _ rfl; have o2 := hO.at 2 _ rfl; have o3 := hO.at 3 _ rfl; have f2 := hO.frozen 2; have f3 := hO.frozen 3; have q0 := hQ.at 0 _ rfl; have q1 := hQ.at 1 _ rfl; have q2 := hQ.at 2 _ rfl; have q3 := hQ.at 3 _ rfl; have g0 := hQ.frozen 0; have g1 := hQ.frozen 1; have g2 := hQ.frozen 2; have g3 := hQ.frozen 3)
  obtain ⟨e0, e1, e2⟩ := took_end h1 (u0.trans u1) hm hbm hQ 2 (.int .u64 (IntKind.u64.wrap (intV (nV s0)))) (.int .i64 1) (.int .i64 l) (.int .u64 (IntKind.u64.wrap (intV (nV s0)))) (.string (⟨#[]⟩))
  have v0 := e0.at 0 _ rfl
  have v1 := e0.at 1 _ rfl
  have v2 := e0.at 2 _ rfl
  have v3 := e0.at 3 _ rfl
  exact bodyPost_ret (v := .agg #[.int .i64 1, .int .i64 l, .int .u64 (IntKind.u64.wrap (intV (nV s0))), .string (⟨#[]⟩)]) (by simp [results, Try.results19, go_sem, v0, v1, v2, v3]) rfl ⟨rfl, e1, e2⟩
set_option maxHeartbeats 1600000 in
set_option maxRecDepth 100000 in
theorem took_text (b : Nat) (s0 : ByteArray) (hs : s0.size < 9223372036854775808) (l : Int) (n : Nat) (s : ByteArray) (w : World) (hr : Rd w b s0 0) :
    Calls Try.prog 19 #[.pointer (some ⟨b, 0, none⟩), .agg #[.int .i64 3, .int .i64 l, .int .u64 (n : Int), .string s]] w (TookP b 3 l (0) (txV s0) (textE s0) (textR s0) w) := by
  have con : Hid (∀ W, Rd W b s0 0 → Calls Try.prog 39 #[.pointer (some ⟨b, 0, none⟩)] W (TakeP b (.string (txV s0)) (textE s0) (textR s0) W)) := fun W hW => text_ok b s0 hs W hW
  generalize textE s0 = E at *
  generalize textR s0 = R at *
  obtain ⟨m, hm⟩ : ∃ m, w.heap.size = m := ⟨_, rfl⟩
  have hbm : b < m := hm ▸ hr.lt
  obtain ⟨r0, _, hQ0, hO0, u0⟩ := took_facts b s0 0 3 l n s w m hm hr
  go_enter Try.func19, Try.ntmps19
  go_wp2_with (go_at_call 39; refine (con.out _ r0).mono ?_; rintro e w1 ⟨rfl, h1, u1⟩; have hO := hO0.upd u1 (by omega); have hQ := hQ0.upd u1 (by omega); have o0 := hO.at 0 _ rfl; have o1 := hO.at 1 _ rfl; have o2 := hO.at 2 _ rfl; have o3 := hO.at 3 _ rfl; have f2 := hO.frozen 2; have f3 := hO.frozen 3; have q0 := hQ.at 0 _ rfl; have q1 := hQ.at 1 _ rfl; have q2 := hQ.at 2 _ rfl; have q3 := hQ.at 3 _ rfl; have g0 := hQ.frozen 0; have g1 := hQ.frozen 1; have g2 := hQ.frozen 2; have g3 := hQ.frozen 3)
  obtain ⟨e0, e1, e2⟩ := took_end h1 (u0.trans u1) hm hbm hQ 3 (.string (txV s0)) (.int .i64 3) (.int .i64 l) (.int .u64 (0)) (.string (txV s0))
  have v0 := e0.at 0 _ rfl
  have v1 := e0.at 1 _ rfl
  have v2 := e0.at 2 _ rfl
  have v3 := e0.at 3 _ rfl
  exact bodyPost_ret (v := .agg #[.int .i64 3, .int .i64 l, .int .u64 (0), .string (txV s0)]) (by simp [results, Try.results19, go_sem, v0, v1, v2, v3]) rfl ⟨rfl, e1, e2⟩
set_option maxHeartbeats 1600000 in
set_option maxRecDepth 100000 in
theorem took_raw (b : Nat) (s0 : ByteArray) (hs : s0.size < 9223372036854775808) (l : Int) (n : Nat) (s : ByteArray) (w : World) (hr : Rd w b s0 0) :
    Calls Try.prog 19 #[.pointer (some ⟨b, 0, none⟩), .agg #[.int .i64 4, .int .i64 l, .int .u64 (n : Int), .string s]] w (TookP b 4 l (0) (rwV s0 (s.size : Int)) (rawE s0 (s.size : Int)) (rawR s0 (s.size : Int)) w) := by
  have con : Hid (∀ W, Rd W b s0 0 → Calls Try.prog 40 #[.pointer (some ⟨b, 0, none⟩), .int .i64 (s.size : Int)] W (TakeP b (.string (rwV s0 (s.size : Int))) (rawE s0 (s.size : Int)) (rawR s0 (s.size : Int)) W)) := fun W hW => raw_ok b s0 hs (s.size : Int) W hW
  generalize rawE s0 (s.size : Int) = E at *
  generalize rawR s0 (s.size : Int) = R at *
  obtain ⟨m, hm⟩ : ∃ m, w.heap.size = m := ⟨_, rfl⟩
  have hbm : b < m := hm ▸ hr.lt
  obtain ⟨r0, _, hQ0, hO0, u0⟩ := took_facts b s0 0 4 l n s w m hm hr
  go_enter Try.func19, Try.ntmps19
  go_wp2_with (go_at_call 40; refine (con.out _ r0).mono ?_; rintro e w1 ⟨rfl, h1, u1⟩; have hO := hO0.upd u1 (by omega); have hQ := hQ0.upd u1 (by omega); have o0 := hO.at 0 _ rfl; have o1 := hO.at 1 _ rfl; have o2 := hO.at 2 _ rfl; have o3 := hO.at 3 _ rfl; have f2 := hO.frozen 2; have f3 := hO.frozen 3; have q0 := hQ.at 0 _ rfl; have q1 := hQ.at 1 _ rfl; have q2 := hQ.at 2 _ rfl; have q3 := hQ.at 3 _ rfl; have g0 := hQ.frozen 0; have g1 := hQ.frozen 1; have g2 := hQ.frozen 2; have g3 := hQ.frozen 3)
  obtain ⟨e0, e1, e2⟩ := took_end h1 (u0.trans u1) hm hbm hQ 3 (.string (rwV s0 (s.size : Int))) (.int .i64 4) (.int .i64 l) (.int .u64 (0)) (.string (rwV s0 (s.size : Int)))
  have v0 := e0.at 0 _ rfl
  have v1 := e0.at 1 _ rfl
  have v2 := e0.at 2 _ rfl
  have v3 := e0.at 3 _ rfl
  exact bodyPost_ret (v := .agg #[.int .i64 4, .int .i64 l, .int .u64 (0), .string (rwV s0 (s.size : Int))]) (by simp [results, Try.results19, go_sem, v0, v1, v2, v3]) rfl ⟨rfl, e1, e2⟩
set_option maxHeartbeats 1600000 in
set_option maxRecDepth 100000 in
theorem took_many (b : Nat) (s0 : ByteArray) (hs : s0.size < 9223372036854775808) (l : Int) (n : Nat) (s : ByteArray) (w : World) (hr : Rd w b s0 0) :
    Calls Try.prog 19 #[.pointer (some ⟨b, 0, none⟩), .agg #[.int .i64 5, .int .i64 l, .int .u64 (n : Int), .string s]] w (TookP b 5 l (IntKind.u64.wrap (mnV s0 l : Int)) (⟨#[]⟩) (manyE s0 l) (nR s0) w) := by
  have con : Hid (∀ W, Rd W b s0 0 → Calls Try.prog 27 #[.pointer (some ⟨b, 0, none⟩), .int .i64 l] W (TakeP b (.int .i64 (mnV s0 l : Int)) (manyE s0 l) (nR s0) W)) := fun W hW => many_ok b s0 hs l W hW
  generalize manyE s0 l = E at *
  generalize nR s0 = R at *
  obtain ⟨m, hm⟩ : ∃ m, w.heap.size = m := ⟨_, rfl⟩
  have hbm : b < m := hm ▸ hr.lt
  obtain ⟨r0, _, hQ0, hO0, u0⟩ := took_facts b s0 0 5 l n s w m hm hr
  go_enter Try.func19, Try.ntmps19
  go_wp2_with (go_at_call 27; refine (con.out _ r0).mono ?_; rintro e w1 ⟨rfl, h1, u1⟩; have hO := hO0.upd u1 (by omega); have hQ := hQ0.upd u1 (by omega); have o0 := hO.at 0 _ rfl; have o1 := hO.at 1 _ rfl; have o2 := hO.at 2 _ rfl; have o3 := hO.at 3 _ rfl; have f2 := hO.frozen 2; have f3 := hO.frozen 3; have q0 := hQ.at 0 _ rfl; have q1 := hQ.at 1 _ rfl; have q2 := hQ.at 2 _ rfl; have q3 := hQ.at 3 _ rfl; have g0 := hQ.frozen 0; have g1 := hQ.frozen 1; have g2 := hQ.frozen 2; have g3 := hQ.frozen 3)
  obtain ⟨e0, e1, e2⟩ := took_end h1 (u0.trans u1) hm hbm hQ 2 (.int .u64 (IntKind.u64.wrap (mnV s0 l : Int))) (.int .i64 5) (.int .i64 l) (.int .u64 (IntKind.u64.wrap (mnV s0 l : Int))) (.string (⟨#[]⟩))
  have v0 := e0.at 0 _ rfl
  have v1 := e0.at 1 _ rfl
  have v2 := e0.at 2 _ rfl
  have v3 := e0.at 3 _ rfl
  exact bodyPost_ret (v := .agg #[.int .i64 5, .int .i64 l, .int .u64 (IntKind.u64.wrap (mnV s0 l : Int)), .string (⟨#[]⟩)]) (by simp [results, Try.results19, go_sem, v0, v1, v2, v3]) rfl ⟨rfl, e1, e2⟩
set_option maxHeartbeats 1600000 in
set_option maxRecDepth 100000 in
theorem took_num (b : Nat) (s0 : ByteArray) (hs : s0.size < 9223372036854775808) (k : Int) (h1 : ¬ k = 1) (h2 : ¬ k = 2) (h3 : ¬ k = 3) (h4 : ¬ k = 4) (h5 : ¬ k = 5) (l : Int) (n : Nat) (s : ByteArray) (w : World) (hr : Rd w b s0 0) :
    Calls Try.prog 19 #[.pointer (some ⟨b, 0, none⟩), .agg #[.int .i64 k, .int .i64 l, .int .u64 (n : Int), .string s]] w (TookP b k l ((nV s0 : Int)) (⟨#[]⟩) (nE s0) (nR s0) w) := by
  have con : Hid (∀ W, Rd W b s0 0 → Calls Try.prog 26 #[.pointer (some ⟨b, 0, none⟩)] W (TakeP b (.int .u64 (nV s0 : Int)) (nE s0) (nR s0) W)) := fun W hW => num_ok b s0 hs W hW
  generalize nE s0 = E at *
  generalize nR s0 = R at *
  obtain ⟨m, hm⟩ : ∃ m, w.heap.size = m := ⟨_, rfl⟩
  have hbm : b < m := hm ▸ hr.lt
  obtain ⟨r0, _, hQ0, hO0, u0⟩ := took_facts b s0 0 k l n s w m hm hr
  go_enter Try.func19, Try.ntmps19
  go_wp2_with (go_at_call 26; refine (con.out _ r0).mono ?_; rintro e w1 ⟨rfl, h1, u1⟩; have hO := hO0.upd u1 (by omega); have hQ := hQ0.upd u1 (by omega); have o0 := hO.at 0 _ rfl; have o1 := hO.at 1 _ rfl; have o2 := hO.at 2 _ rfl; have o3 := hO.at 3 _ rfl; have f2 := hO.frozen 2; have f3 := hO.frozen 3; have q0 := hQ.at 0 _ rfl; have q1 := hQ.at 1 _ rfl; have q2 := hQ.at 2 _ rfl; have q3 := hQ.at 3 _ rfl; have g0 := hQ.frozen 0; have g1 := hQ.frozen 1; have g2 := hQ.frozen 2; have g3 := hQ.frozen 3)
  obtain ⟨e0, e1, e2⟩ := took_end h1 (u0.trans u1) hm hbm hQ 2 (.int .u64 ((nV s0 : Int))) (.int .i64 k) (.int .i64 l) (.int .u64 ((nV s0 : Int))) (.string (⟨#[]⟩))
  have v0 := e0.at 0 _ rfl
  have v1 := e0.at 1 _ rfl
  have v2 := e0.at 2 _ rfl
  have v3 := e0.at 3 _ rfl
  exact bodyPost_ret (v := .agg #[.int .i64 k, .int .i64 l, .int .u64 ((nV s0 : Int)), .string (⟨#[]⟩)]) (by simp [results, Try.results19, go_sem, v0, v1, v2, v3]) rfl ⟨rfl, e1, e2⟩
set_option maxHeartbeats 1600000 in
set_option maxRecDepth 100000 in
theorem took_flag (b : Nat) (s0 : ByteArray) (l : Int) (n : Nat) (s : ByteArray) (w : World) (hr : Rd w b s0 0) :
    Calls Try.prog 19 #[.pointer (some ⟨b, 0, none⟩), .agg #[.int .i64 2, .int .i64 l, .int .u64 (n : Int), .string s]] w (TookP b 2 l (if flV s0 then 1 else 0) ⟨#[]⟩ (fE s0) (fR s0) w) := by
  have con : Hid (∀ W, Rd W b s0 0 → Calls Try.prog 38 #[.pointer (some ⟨b, 0, none⟩)] W (TakeP b (.bool (flV s0)) (fE s0) (fR s0) W)) := fun W hW => flag_ok b s0 W hW
  generalize fE s0 = E at *
  generalize fR s0 = R at *
  obtain ⟨m, hm⟩ : ∃ m, w.heap.size = m := ⟨_, rfl⟩
  have hbm : b < m := hm ▸ hr.lt
  obtain ⟨r0, _, hQ0, hO0, u0⟩ := took_facts b s0 0 2 l n s w m hm hr
  cases hfl : flV s0 with
  | true =>
    rw [hfl] at con
    simp only [if_true]
    go_enter Try.func19, Try.ntmps19
    go_wp2_with (go_at_call 38; refine (con.out _ r0).mono ?_; rintro e w1 ⟨rfl, h1, u1⟩; have hO := hO0.upd u1 (by omega); have hQ := hQ0.upd u1 (by omega); have o0 := hO.at 0 _ rfl; have o1 := hO.at 1 _ rfl; have o2 := hO.at 2 _ rfl; have o3 := hO.at 3 _ rfl; have f2 := hO.frozen 2; have f3 := hO.frozen 3; have q0 := hQ.at 0 _ rfl; have q1 := hQ.at 1 _ rfl; have q2 := hQ.at 2 _ rfl; have q3 := hQ.at 3 _ rfl; have g0 := hQ.frozen 0; have g1 := hQ.frozen 1; have g2 := hQ.frozen 2; have g3 := hQ.frozen 3)
    obtain ⟨e0, e1, e2⟩ := took_end h1 (u0.trans u1) hm hbm hQ 2 (.int .u64 1) (.int .i64 2) (.int .i64 l) (.int .u64 1) (.string ⟨#[]⟩)
    have v0 := e0.at 0 _ rfl
    have v1 := e0.at 1 _ rfl
    have v2 := e0.at 2 _ rfl
    have v3 := e0.at 3 _ rfl
    exact bodyPost_ret (v := .agg #[.int .i64 2, .int .i64 l, .int .u64 1, .string ⟨#[]⟩]) (by simp [results, Try.results19, go_sem, v0, v1, v2, v3]) rfl ⟨rfl, e1, e2⟩
  | false =>
    rw [hfl] at con
    simp only [Bool.false_eq_true, if_false]
    go_enter Try.func19, Try.ntmps19
    go_wp2_with (go_at_call 38; refine (con.out _ r0).mono ?_; rintro e w1 ⟨rfl, h1, u1⟩; have hO := hO0.upd u1 (by omega); have hQ := hQ0.upd u1 (by omega); have o0 := hO.at 0 _ rfl; have o1 := hO.at 1 _ rfl; have o2 := hO.at 2 _ rfl; have o3 := hO.at 3 _ rfl; have f2 := hO.frozen 2; have f3 := hO.frozen 3; have q0 := hQ.at 0 _ rfl; have q1 := hQ.at 1 _ rfl; have q2 := hQ.at 2 _ rfl; have q3 := hQ.at 3 _ rfl; have g0 := hQ.frozen 0; have g1 := hQ.frozen 1; have g2 := hQ.frozen 2; have g3 := hQ.frozen 3)
    obtain ⟨e0, e1, e2⟩ := took_end0 h1 (u0.trans u1) hm hbm hQ (.int .i64 2) (.int .i64 l) (.int .u64 0) (.string ⟨#[]⟩)
    have v0 := e0.at 0 _ rfl
    have v1 := e0.at 1 _ rfl
    have v2 := e0.at 2 _ rfl
    have v3 := e0.at 3 _ rfl
    exact bodyPost_ret (v := .agg #[.int .i64 2, .int .i64 l, .int .u64 0, .string ⟨#[]⟩]) (by simp [results, Try.results19, go_sem, v0, v1, v2, v3]) rfl ⟨rfl, e1, e2⟩

set_option maxHeartbeats 3200000 in
set_option maxRecDepth 100000 in
theorem took_err (b : Nat) (s0 : ByteArray) (E : Int) (hE : E ≠ 0) (k l : Int) (n : Nat) (s : ByteArray) (w : World) (hr : Rd w b s0 E) :
    Calls Try.prog 19 #[.pointer (some ⟨b, 0, none⟩), .agg #[.int .i64 k, .int .i64 l, .int .u64 (n : Int), .string s]] w fun e w' => e = .returned (.agg #[.int .i64 k, .int .i64 l, .int .u64 0, .string ⟨#[]⟩]) ∧ Rd w' b s0 E ∧ Upd b w w' := by
  have r0 : Hid (∀ o1 o2 o3, Rd (((w.alloc o1).alloc o2).alloc o3) b s0 E ∧ Upd b w (((w.alloc o1).alloc o2).alloc o3)) := fun _ _ _ => ⟨((hr.alloc _).alloc _).alloc _, (((Upd.refl b w).alloc _).alloc _).alloc _⟩
  by_cases h1 : k = 1
  · subst h1
    go_enter Try.func19, Try.ntmps19
    go_wp2_with (go_at_call 37; refine (int_err b s0 E hE _ (r0.out _ _ _).1).mono ?_; rintro e w2 ⟨rfl, rfl⟩)
    all_goals exact bodyPost_ret (v := .agg #[.int .i64 1, .int .i64 l, .int .u64 0, .string ⟨#[]⟩]) (by simp [results, Try.results19, go_sem]) rfl ⟨rfl, (r0.out _ _ _).1, (r0.out _ _ _).2⟩
  by_cases h2 : k = 2
  · subst h2
    go_enter Try.func19, Try.ntmps19
    go_wp2_with (go_at_call 38; refine (flag_err b s0 E hE _ (r0.out _ _ _).1).mono ?_; rintro e w2 ⟨rfl, rfl⟩)
    all_goals exact bodyPost_ret (v := .agg #[.int .i64 2, .int .i64 l, .int .u64 0, .string ⟨#[]⟩]) (by simp [results, Try.results19, go_sem]) rfl ⟨rfl, (r0.out _ _ _).1, (r0.out _ _ _).2⟩
  by_cases h3 : k = 3
  · subst h3
    go_enter Try.func19, Try.ntmps19
    go_wp2_with (go_at_call 39; refine (text_err b s0 E hE _ (r0.out _ _ _).1).mono ?_; rintro e w2 ⟨rfl, rfl⟩)
    all_goals exact bodyPost_ret (v := .agg #[.int .i64 3, .int .i64 l, .int .u64 0, .string ⟨#[]⟩]) (by simp [results, Try.results19, go_sem]) rfl ⟨rfl, (r0.out _ _ _).1, (r0.out _ _ _).2⟩
  by_cases h4 : k = 4
  · subst h4
    go_enter Try.func19, Try.ntmps19
    go_wp2_with (go_at_call 40; refine (raw_err b s0 E hE _ _ (r0.out _ _ _).1).mono ?_; rintro e w2 ⟨rfl, rfl⟩)
    all_goals exact bodyPost_ret (v := .agg #[.int .i64 4, .int .i64 l, .int .u64 0, .string ⟨#[]⟩]) (by simp [results, Try.results19, go_sem]) rfl ⟨rfl, (r0.out _ _ _).1, (r0.out _ _ _).2⟩
  by_cases h5 : k = 5
  · subst h5
    go_enter Try.func19, Try.ntmps19
    go_wp2_with (go_at_call 27; refine (many_err b s0 E hE _ _ (r0.out _ _ _).1).mono ?_; rintro e w2 ⟨rfl, rfl⟩)
    all_goals exact bodyPost_ret (v := .agg #[.int .i64 5, .int .i64 l, .int .u64 0, .string ⟨#[]⟩]) (by simp [results, Try.results19, go_sem]) rfl ⟨rfl, (r0.out _ _ _).1, (r0.out _ _ _).2⟩
  · go_enter Try.func19, Try.ntmps19
    go_wp2_with (go_at_call 26; refine (num_err b s0 E hE _ (r0.out _ _ _).1).mono ?_; rintro e w2 ⟨rfl, rfl⟩)
    all_goals exact bodyPost_ret (v := .agg #[.int .i64 k, .int .i64 l, .int .u64 0, .string ⟨#[]⟩]) (by simp [results, Try.results19, go_sem]) rfl ⟨rfl, (r0.out _ _ _).1, (r0.out _ _ _).2⟩
end Go.Proofs.Ytlbdlipdhhpgmaa
