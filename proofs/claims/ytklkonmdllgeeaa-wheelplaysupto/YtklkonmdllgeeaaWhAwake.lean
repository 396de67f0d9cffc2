/- What the law asks first (awake, 6). -/
import Derived.Test.YtklkonmdllgeeaaWhWin
namespace Go.Proofs.Ytklkonmdllgeeaa
open Go.RowKit

def kA : List UInt8 := [97]
def kB : List UInt8 := [98]
def kC : List UInt8 := [99]
def kX : List UInt8 := [120]
def aw3 : Ts := [(kB, 5, 2), (kC, 3, 3), (kA, 7, 4)]
theorem aw_due {t : Nat} (h : Fine aw3 t) : dueT 5 aw3 = [(kC, 3, 3), (kB, 5, 2)] := (due_sorted h (by decide) (by decide)).symm
theorem aw_left : leftT 5 aw3 = [(kA, 7, 4)] := by decide
theorem aw_s1 : setAll 5 [kA, kB] [] 0 = [(kA, 5, 1), (kB, 5, 2)] := by decide
theorem aw_s2 : setAll 3 [kC] [(kA, 5, 1), (kB, 5, 2)] 2 = [(kA, 5, 1), (kB, 5, 2), (kC, 3, 3)] := by decide
theorem aw_s3 : setAll 7 [kA] [(kA, 5, 1), (kB, 5, 2), (kC, 3, 3)] 3 = aw3 := by decide
theorem aw_min : minT aw3 = 3 := by decide
theorem aw_some : someB aw3 = true := by decide
theorem aw_find : findT [(kA, 7, 4)] kA = some (kA, 7, 4) := by decide
theorem aw_drop : dropAll [kA, kX] [(kA, 7, 4)] = [] := by decide
theorem small_ok {ks : List (List UInt8)} (h : ∀ k ∈ ks, k.length ≤ 5) : ∀ k ∈ ks, k.length ≤ maxLen := fun k hk => by have := h k hk; unfold maxLen; omega
set_option maxHeartbeats 3200000 in
set_option maxRecDepth 100000 in
theorem awake_any (hsort : SortOk) (w : World) : Calls Try.prog 6 #[] w fun e w' => e = .returned (.bool true) ∧ Hid (Below w.heap.size w w') := by
  obtain ⟨N, hN⟩ : ∃ N, w.heap.size = N := ⟨_, rfl⟩
  have hnew := win_new w
  rw [hN] at hnew
  rw [hN]
  have hs1 : Hid (∀ W, Hid (Win N N w [] 0 W) → Calls Try.prog 13 #[.pointer (some ⟨N, 0, none⟩), .int .i64 5, .slice (some ⟨W.heap.size, 0, none⟩) 2 2] (W.alloc (.cells #[.string ⟨#[97]⟩, .string ⟨#[98]⟩] 9)) fun e w' => e = .returned (.tuple #[]) ∧ Hid (Win N N w [(kA, 5, 1), (kB, 5, 2)] 2 w')) := fun W h => (win_set_lit h.out 5 [kA, kB] (small_ok (by decide)) (by decide)).mono fun _ _ ⟨e1, e2⟩ => ⟨e1, aw_s1 ▸ e2⟩
  have hs2 : Hid (∀ W, Hid (Win N N w [(kA, 5, 1), (kB, 5, 2)] 2 W) → Calls Try.prog 13 #[.pointer (some ⟨N, 0, none⟩), .int .i64 3, .slice (some ⟨W.heap.size, 0, none⟩) 1 1] (W.alloc (.cells #[.string ⟨#[99]⟩] 9)) fun e w' => e = .returned (.tuple #[]) ∧ Hid (Win N N w [(kA, 5, 1), (kB, 5, 2), (kC, 3, 3)] 3 w')) := fun W h => (win_set_lit h.out 3 [kC] (small_ok (by decide)) (by decide)).mono fun _ _ ⟨e1, e2⟩ => ⟨e1, aw_s2 ▸ e2⟩
  have hs3 : Hid (∀ W, Hid (Win N N w [(kA, 5, 1), (kB, 5, 2), (kC, 3, 3)] 3 W) → Calls Try.prog 13 #[.pointer (some ⟨N, 0, none⟩), .int .i64 7, .slice (some ⟨W.heap.size, 0, none⟩) 1 1] (W.alloc (.cells #[.string ⟨#[97]⟩] 9)) fun e w' => e = .returned (.tuple #[]) ∧ Hid (Win N N w aw3 4 w')) := fun W h => (win_set_lit h.out 7 [kA] (small_ok (by decide)) (by decide)).mono fun _ _ ⟨e1, e2⟩ => ⟨e1, aw_s3 ▸ e2⟩
  have hnx : Hid (∀ W, Hid (Win N N w aw3 4 W) → Calls Try.prog 15 #[.pointer (some ⟨N, 0, none⟩)] W fun e w' => e = .returned (.tuple #[.int .i64 3, .bool true]) ∧ Hid (Win N N w aw3 4 w')) := fun W h => (win_next h.out).mono fun _ _ ⟨e1, e2, _⟩ => ⟨by rw [aw_min, aw_some] at e1; exact e1, e2⟩
  have hdu : Hid (∀ W, Hid (Win N N w aw3 4 W) → Calls Try.prog 10 #[.pointer (some ⟨N, 0, none⟩), .int .i64 5] W fun e w' => ∃ g c, e = .returned (.slice (some ⟨g, 0, none⟩) 2 c) ∧ w'.cell? ⟨g, 0, none⟩ = some (.string ⟨#[99]⟩) ∧ w'.cell? ⟨g, 1, none⟩ = some (.string ⟨#[98]⟩) ∧ g < w'.heap.size ∧ g ≠ N ∧ Hid (Win N N w [(kA, 7, 4)] 4 w')) := fun W h => by
    have hd := aw_due h.out.at_.fine
    refine (win_due hsort h.out 5 (by decide) 2 (by rw [hd]; rfl)).mono ?_
    rintro e w' ⟨a, c, rfl, hE⟩
    rw [hd, aw_left] at hE
    have hr := hE.out.2.2.1
    rcases hr.2 with ⟨q, _⟩ | ⟨g, cap, cur, q, hb, hg, _⟩
    · cases q
    · obtain ⟨rfl, _, rfl⟩ := Value.slice.inj q
      obtain ⟨g', o', e', c0⟩ := hE.out.1.cell 0 kC rfl
      obtain ⟨g'', o'', e'', c1⟩ := hE.out.1.cell 1 kB rfl
      cases e'
      cases e''
      rw [Nat.zero_add] at c0 c1
      refine ⟨g, c, rfl, c0, c1, (Array.getElem?_eq_some_iff.1 hg).1, ?_, hE.out.2.1⟩
      have := h.out.at_.lt
      omega
  have hat : Hid (∀ W, Hid (Win N N w [(kA, 7, 4)] 4 W) → Calls Try.prog 18 #[.pointer (some ⟨N, 0, none⟩), .string ⟨#[97]⟩] W fun e w' => e = .returned (.tuple #[.int .i64 7, .bool true]) ∧ Hid (Win N N w [(kA, 7, 4)] 4 w') ∧ Hid (Below W.heap.size W w')) := fun W h => (win_at h.out kA (by decide)).mono fun _ _ ⟨e1, e2⟩ => ⟨by rw [aw_find] at e1; exact e1, e2⟩
  have hca : Hid (∀ W, Hid (Win N N w [(kA, 7, 4)] 4 W) → Calls Try.prog 9 #[.pointer (some ⟨N, 0, none⟩), .slice (some ⟨W.heap.size, 0, none⟩) 2 2] (W.alloc (.cells #[.string ⟨#[97]⟩, .string ⟨#[120]⟩] 9)) fun e w' => e = .returned (.int .i64 1) ∧ Hid (Win N N w [] 4 w')) := fun W h => (win_cancel_lit h.out [kA, kX] (small_ok (by decide)) (by decide) (by decide)).mono fun _ _ ⟨e1, e2⟩ => ⟨by rw [aw_drop] at e1; exact e1, aw_drop ▸ e2⟩
  have hle : Hid (∀ W, Hid (Win N N w [] 4 W) → Calls Try.prog 17 #[.pointer (some ⟨N, 0, none⟩)] W fun e w' => e = .returned (.int .i64 0) ∧ w' = W) := fun W h => win_len h.out
  clear hN hsort
  go_enter Try.func6, Try.ntmps6
  go_wp2_with (first
    | (go_at_call 7; refine hnew.mono ?_; rintro e w1 ⟨rfl, h1⟩; clear hnew)
    | (go_at_call 13; refine (hs1.out w1 h1).mono ?_; rintro e w2 ⟨rfl, h2⟩; clear hs1 h1)
    | (go_at_call 13; refine (hs2.out w2 h2).mono ?_; rintro e w3 ⟨rfl, h3⟩; clear hs2 h2)
    | (go_at_call 13; refine (hs3.out w3 h3).mono ?_; rintro e w4 ⟨rfl, h4⟩; clear hs3 h3)
    | (go_at_call 15; refine (hnx.out w4 h4).mono ?_; rintro e w5 ⟨rfl, h5⟩; clear hnx h4)
    | (go_at_call 10; refine (hdu.out w5 h5).mono ?_; rintro e w6 ⟨g, c, rfl, c0, c1, hg, hgN, h6⟩; clear hdu h5)
    | (go_at_call 18; refine (hat.out w6 h6).mono ?_; rintro e w7 ⟨rfl, h7, hb7⟩; have d0 := (World.cell?_of_block (w := w6) (hb7.out.block g hg) : w7.cell? ⟨g, 0, none⟩ = _).trans c0; have d1 := (World.cell?_of_block (w := w6) (hb7.out.block g hg) : w7.cell? ⟨g, 1, none⟩ = _).trans c1)
    | (go_at_call 9; refine (hca.out w7 h7).mono ?_; rintro e w8 ⟨rfl, h8⟩)
    | (go_at_call 17; refine (hle.out w8 h8).mono ?_; rintro e w9 ⟨rfl, rfl⟩))
  go_ret
  exact ⟨rfl, h8.out.upd.toBelow⟩
end Go.Proofs.Ytklkonmdllgeeaa
