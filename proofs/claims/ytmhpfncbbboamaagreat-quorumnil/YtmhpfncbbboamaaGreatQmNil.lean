/- The law QuorumNil (3). -/
import Derived.Test.YtmhpfncbbboamaaGreatQmAw
namespace Go.Proofs.YtmhpfncbbboamaaGreat
open Go.RowKit Go.Maps

abbrev Z30 : List Value := [.slice none 0 0, .map none, .int .i64 0, .int .i64 0, .int .i64 0, .int .i64 0, .int .i64 0, .int .i64 0, .int .i64 0, .int .i64 0]
/-- A zero tally stands at M; all else below is as it was. -/
structure NilSt (M : Nat) (w W : World) : Prop where
  z : Holds W M Z30 30
  gr : Gr w W
theorem NilSt.more {M : Nat} {w W W' : World} (h : NilSt M w W) (hg : Gr W W') : NilSt M w W' := ⟨h.z.below hg h.z.lt, h.gr.trans hg⟩
theorem zver (M : Nat) {w W : World} (h : NilSt M w W) : Calls Tryz.prog 9 #[.pointer (some ⟨M, 0, none⟩)] W fun e w' => e = .returned (.int .i64 1) ∧ NilSt M w w' :=
  (verdict_cells M (.slice none 0 0) (.map none) 0 0 0 0 0 0 0 0 [] 30 W h.z).mono fun _ _ ⟨e1, e2⟩ => ⟨e1, h.more e2⟩
theorem zyes (M : Nat) {w W : World} (h : NilSt M w W) (q : Nat) (x : Int) (hx : I64 x) (cx : W.cell? ⟨q, 0, none⟩ = some (.int .i64 x)) : Calls Tryz.prog 10 #[.pointer (some ⟨M, 0, none⟩), .slice (some ⟨q, 0, none⟩) 1 1] W fun e w' => e = .returned (.bool false) ∧ NilSt M w w' :=
  (yes_of M _ W (fun t w' => t = false ∧ NilSt M w w') ((say_out M 1 q 0 1 (.map none) x W (h.z.at 1 _ rfl) (look_none x hx W) cx).mono fun _ _ ⟨e1, e2⟩ => ⟨false, e1, rfl, e2 ▸ h⟩)).mono fun _ _ ⟨_, e1, e2, e3⟩ => ⟨e2 ▸ e1, e3⟩
set_option maxRecDepth 100000 in
set_option maxHeartbeats 4000000 in
theorem quorumNil_walk (x : Int) (hx : I64 x) (w : World) : Calls Tryz.prog 3 #[.int .i64 x] w fun e w' => e = .returned (.bool true) ∧ Gr w w' := by
  obtain ⟨M, hM⟩ : ∃ M, w.heap.size = M := ⟨_, rfl⟩
  have HM : Hid (w.heap.size = M) := hM
  have h0 : Hid (NilSt M w (w.alloc (.cells Z30.toArray 30))) := hM ▸ ⟨holds_new w Z30 30, al1⟩
  have c6 : Hid (∀ W, NilSt M w W → Calls Tryz.prog 6 #[.pointer none] W fun e w' => e = .returned (.tuple #[.agg Z38.toArray, .bool false]) ∧ Hid (NilSt M w w')) := fun W h => (cell_nil W).mono fun _ _ ⟨e1, e2⟩ => ⟨e1, h.more e2⟩
  have c7 : Hid (∀ W, Calls Tryz.prog 7 #[.pointer none] W fun e w' => e = .returned (.tuple #[.int .i64 0, .int .i64 0, .int .i64 0]) ∧ w' = W) := counts_nil
  have c8 : Hid (∀ W, NilSt M w W → Calls Tryz.prog 8 #[] W fun e w' => e = .returned (.bool true) ∧ Hid (NilSt M w w')) := fun W h => (awake_any W).mono fun _ _ ⟨e1, e2⟩ => ⟨e1, h.more e2⟩
  have c9 : Hid (∀ W, Calls Tryz.prog 9 #[.pointer none] W fun e w' => e = .returned (.int .i64 2) ∧ w' = W) := verdict_nil
  have c10 : Hid (∀ v W, Calls Tryz.prog 10 #[.pointer none, v] W fun e w' => e = .returned (.bool false) ∧ w' = W) := yes_nil
  have c11 : Hid (∀ v W, Calls Tryz.prog 11 #[.pointer none, v] W fun e w' => e = .returned (.bool false) ∧ w' = W) := no_nil
  have c12 : Hid (∀ W, Calls Tryz.prog 12 #[.pointer none] W fun e w' => e = .returned (.slice none 0 0) ∧ w' = W) := open_nil
  have c13 : Hid (∀ W, NilSt M w W → Calls Tryz.prog 13 #[.pointer none] W fun e w' => e = .returned (.slice none 0 0) ∧ Hid (NilSt M w w')) := fun W h => (repairs_nil W).mono fun _ _ ⟨e1, e2⟩ => ⟨e1, h.more e2⟩
  have c14 : Hid (∀ W, NilSt M w W → Calls Tryz.prog 14 #[.pointer none, .int .i64 x] W fun e w' => e = .returned (.bool false) ∧ Hid (NilSt M w w')) := fun W h => (none_nil x W).mono fun _ _ ⟨e1, e2⟩ => ⟨e1, h.more e2⟩
  have d9 : Hid (∀ W, NilSt M w W → Calls Tryz.prog 9 #[.pointer (some ⟨M, 0, none⟩)] W fun e w' => e = .returned (.int .i64 1) ∧ Hid (NilSt M w w')) := fun W h => zver M h
  have d10 : Hid (∀ W, NilSt M w W → Calls Tryz.prog 10 #[.pointer (some ⟨M, 0, none⟩), .slice (some ⟨W.heap.size, 0, none⟩) 1 1] (W.alloc (.cells #[.int .i64 x] 3)) fun e w' => e = .returned (.bool false) ∧ Hid (NilSt M w w')) := fun W h => zyes M (h.more al1) W.heap.size x hx ((holds_new W [.int .i64 x] 3).at 0 _ rfl)
  clear hM
  go_enter Tryz.func3, Tryz.ntmps3
  go_upto_region 4 with fail
  rw [HM.out]
  generalize w.alloc (.cells Z30.toArray 30) = w0 at h0 ⊢
  go_upto_region 6 with (first
    | (go_at_call 6; refine (c6.out _ h0.out).mono ?_; rintro e w1 ⟨rfl, h1⟩; have h2 : Hid (NilSt M w (w1.alloc (.cells Z38.toArray 38))) := h1.out.more al1; clear h0 c6 h1)
    | (go_at_call 7; refine (c7.out _).mono ?_; rintro e w2 ⟨rfl, e2⟩; rw [e2]; clear e2 c7))
  generalize w1.alloc (.cells Z38.toArray 38) = w2 at h2 ⊢
  go_wp2_with (first
    | (go_at_call 8; refine (c8.out _ h2.out).mono ?_; rintro e w3 ⟨rfl, h3⟩; clear h2 c8)
    | (go_at_call 9; refine (c9.out _).mono ?_; rintro e w4 ⟨rfl, e4⟩; rw [e4]; clear e4 c9)
    | (go_at_call 10; refine (c10.out _ _).mono ?_; rintro e w5 ⟨rfl, e5⟩; rw [e5]; clear e5 c10; have h5 : Hid (NilSt M w ((w3.alloc (.cells #[.int .i64 x] 3)).alloc (.cells #[.int .i64 x] 3))) := (h3.out.more al2); clear h3)
    | (go_at_call 11; refine (c11.out _ _).mono ?_; rintro e w6 ⟨rfl, e6⟩; rw [e6]; clear e6 c11)
    | (go_at_call 12; refine (c12.out _).mono ?_; rintro e w7 ⟨rfl, e7⟩; rw [e7]; clear e7 c12)
    | (go_at_call 13; refine (c13.out _ h5.out).mono ?_; rintro e w8 ⟨rfl, h8⟩; clear h5 c13)
    | (go_at_call 14; refine (c14.out _ h8.out).mono ?_; rintro e w9 ⟨rfl, h9⟩; clear h8 c14)
    | (go_at_call 9; refine (d9.out _ h9.out).mono ?_; rintro e w10 ⟨rfl, h10⟩; clear h9 d9)
    | (go_at_call 10; refine (d10.out _ h10.out).mono ?_; rintro e w11 ⟨rfl, h11⟩; clear h10 d10))
  go_ret
  exact ⟨rfl, h11.out.gr⟩
end Go.Proofs.YtmhpfncbbboamaaGreat
