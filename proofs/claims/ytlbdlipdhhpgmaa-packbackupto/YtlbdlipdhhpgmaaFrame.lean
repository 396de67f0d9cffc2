/- What Frame and Unframe answer. -/
import Derived.Test.YtlbdlipdhhpgmaaCheck
import Derived.Test.YtlbdlipdhhpgmaaReaders
import Derived.Test.YtlbdlipdhhpgmaaOne
namespace Go.Proofs.Ytlbdlipdhhpgmaa
open Go.RowKit

/-- A zero writer at a block that is new. -/
theorem wr_new (w : World) : Wr (w.alloc (.cells #[.slice none 0 0] 29)) w.heap.size [] := ⟨_, holds_new w [.slice none 0 0] 29, World.ownsRow_nil _ _ _ _⟩

/-- A frame. -/
def frameL (s : ByteArray) : List UInt8 := textL s ++ four (crc s.data.toList)

set_option maxRecDepth 100000 in
theorem frame_big (s : ByteArray) (h : (65536 : Int) < (s.size : Int)) (w : World) :
    Calls Try.prog 23 #[.string s] w fun e w' => e = .returned (.tuple #[.string ⟨#[]⟩, .int .i64 12]) ∧ w' = w := by
  go_enter Try.func23, Try.ntmps23
  go_wp2
  go_ret2
  exact ⟨rfl, rfl⟩
set_option maxRecDepth 100000 in
theorem frame_ok (s : ByteArray) (h : (s.size : Int) ≤ (65536 : Int)) (w : World) :
    Calls Try.prog 23 #[.string s] w fun e w' => e = .returned (.tuple #[.string (strL (frameL s)), .int .i64 0]) ∧ Below w.heap.size w w' := by
  obtain ⟨n, hn⟩ : ∃ n, w.heap.size = n := ⟨_, rfl⟩
  have hz : (textL s).length ≤ s.size + 10 := by
    have := numL_len10 s.size (by omega)
    have e : s.data.toList.length = s.size := rfl
    rw [textL, List.length_append, e]; omega
  have hW0 : Wr (w.alloc (.cells #[.slice none 0 0] 29)) n [] := hn ▸ wr_new w
  have hb0 : Below n w (w.alloc (.cells #[.slice none 0 0] 29)) := (Below.refl _ _).alloc (by omega) _
  have hz0 : (w.alloc (.cells #[.slice none 0 0] 29)).heap.size = n + 1 := by simp [hn]
  have ht : Hid (Calls Try.prog 13 #[.pointer (some ⟨n, 0, none⟩), .slice (some ⟨n + 1, 0, none⟩) 1 1] ((w.alloc (.cells #[.slice none 0 0] 29)).alloc (.cells #[.string s] 9)) fun e w' => e = .returned (.pointer (some ⟨n, 0, none⟩)) ∧ Wr w' n (textL s) ∧ WUpd n (w.alloc (.cells #[.slice none 0 0] 29)) w') := by
    have := wtexts_one n [] s trivial (w.alloc (.cells #[.slice none 0 0] 29)) (n + 1) hz0 hW0 (by simp; omega)
    rw [List.nil_append] at this
    exact this
  have hck : Hid (∀ W, Calls Try.prog 41 #[.string s] W fun e w' => e = .returned (.string (strL (four (crc s.data.toList)))) ∧ Below W.heap.size W w') := fun W => checkOf_any s (by omega) W
  have hraw : Hid (∀ (W : World) (N : Nat), W.heap.size = N → Wr W n (textL s) → Calls Try.prog 30 #[.pointer (some ⟨n, 0, none⟩), .slice (some ⟨N, 0, none⟩) 1 1] (W.alloc (.cells #[.string (strL (four (crc s.data.toList)))] 9)) fun e w' => e = .returned (.pointer (some ⟨n, 0, none⟩)) ∧ Wr w' n (frameL s) ∧ WUpd n W w') := fun W N hN hW =>
    wraws_one n (textL s) (strL (four (crc s.data.toList))) trivial W N hN hW (by rw [show (rawL (strL (four (crc s.data.toList)))).length = 4 from rfl]; omega)
  generalize strL (four (crc s.data.toList)) = q at *
  generalize frameL s = fr at *
  rw [hn]
  go_enter Try.func23, Try.ntmps23
  go_wp2_with (first
    | (go_at_call 13; refine ht.out.mono ?_; rintro e w1 ⟨rfl, h1, u1⟩)
    | (go_at_call 41; refine (hck.out _).mono ?_; rintro e w2 ⟨rfl, b2⟩; obtain ⟨n2, hn2⟩ : ∃ n2, w2.heap.size = n2 := ⟨_, rfl⟩; have h2 := h1.below b2)
    | (go_at_call 30; refine (hraw.out w2 n2 hn2 h2).mono ?_; rintro e w3 ⟨rfl, h3, u3⟩)
    | (go_at_call 16; refine (bytes_some n fr _ h3).mono ?_; rintro e w4 ⟨rfl, rfl⟩))
  go_ret2
  have z1 := u1.size
  exact ⟨rfl, ((hb0.trans (u1.below (Nat.le_refl _))).trans (b2.mono (by omega))).trans (u3.below (Nat.le_refl _))⟩
end Go.Proofs.Ytlbdlipdhhpgmaa
