/- The statements' own look at two known sums ('awake') answers true: of no bytes, and of 'abc' in three parts; the tables reading as they are laid. -/
import Derived.Test.YtccebaleaipilaaDoorSum
import Derived.Test.YtccebaleaipilaaDoorText
namespace Go.Proofs.YtccebaleaipilaaDoor
open Go.RowKit

def abcParts : List ByteArray := [⟨#[97]⟩, ⟨#[]⟩, ⟨#[98, 99]⟩]
theorem known_none : textL (sumL (putN newL (bytes []))) = ⟨#[101, 51, 98, 48, 99, 52, 52, 50, 57, 56, 102, 99, 49, 99, 49, 52, 57, 97, 102, 98, 102, 52, 99, 56, 57, 57, 54, 102, 98, 57, 50, 52, 50, 55, 97, 101, 52, 49, 101, 52, 54, 52, 57, 98, 57, 51, 52, 99, 97, 52, 57, 53, 57, 57, 49, 98, 55, 56, 53, 50, 98, 56, 53, 53]⟩ := by decide +kernel
theorem known_abc : textL (sumL (putN newL (bytes abcParts))) = ⟨#[98, 97, 55, 56, 49, 54, 98, 102, 56, 102, 48, 49, 99, 102, 101, 97, 52, 49, 52, 49, 52, 48, 100, 101, 53, 100, 97, 101, 50, 50, 50, 51, 98, 48, 48, 51, 54, 49, 97, 51, 57, 54, 49, 55, 55, 97, 57, 99, 98, 52, 49, 48, 102, 102, 54, 49, 102, 50, 48, 48, 49, 53, 97, 100]⟩ := by decide +kernel

/-- The sum of parts, and its text, the sum itself kept out of sight. -/
theorem sum_text (ps : List ByteArray) (hlen : (bytes ps).length < 1000) (hps : ps.length < 1000) (lit : ByteArray) (hk : textL (sumL (putN newL (bytes ps))) = lit) : ∃ s0 : List UInt8,
    (∀ v w, Parts w v ps → Laid w → Calls Tryd.prog 8 #[v] w fun e w' => e = .returned (.agg (s0.map byteV).toArray) ∧ Below w.heap.size w w') ∧
    (∀ w, Calls Tryd.prog 10 #[.agg (s0.map byteV).toArray] w fun e w' => e = .returned (.string lit) ∧ Below w.heap.size w w') :=
  ⟨sumL (putN newL (bytes ps)), fun v w hp hL => sum_any ps (by omega) (by omega) v w hp hL, fun w => hk ▸ text_any _ (sumL_length _ (putN_ok _ _ newL_ok)) w⟩
theorem awake_none : ∃ s0 : List UInt8,
    (∀ v w, Parts w v [] → Laid w → Calls Tryd.prog 8 #[v] w fun e w' => e = .returned (.agg (s0.map byteV).toArray) ∧ Below w.heap.size w w') ∧
    (∀ w, Calls Tryd.prog 10 #[.agg (s0.map byteV).toArray] w fun e w' => e = .returned (.string ⟨#[101, 51, 98, 48, 99, 52, 52, 50, 57, 56, 102, 99, 49, 99, 49, 52, 57, 97, 102, 98, 102, 52, 99, 56, 57, 57, 54, 102, 98, 57, 50, 52, 50, 55, 97, 101, 52, 49, 101, 52, 54, 52, 57, 98, 57, 51, 52, 99, 97, 52, 57, 53, 57, 57, 49, 98, 55, 56, 53, 50, 98, 56, 53, 53]⟩) ∧ Below w.heap.size w w') :=
  sum_text [] (by decide) (by decide) _ known_none
theorem awake_abc : ∃ s0 : List UInt8,
    (∀ v w, Parts w v abcParts → Laid w → Calls Tryd.prog 8 #[v] w fun e w' => e = .returned (.agg (s0.map byteV).toArray) ∧ Below w.heap.size w w') ∧
    (∀ w, Calls Tryd.prog 10 #[.agg (s0.map byteV).toArray] w fun e w' => e = .returned (.string ⟨#[98, 97, 55, 56, 49, 54, 98, 102, 56, 102, 48, 49, 99, 102, 101, 97, 52, 49, 52, 49, 52, 48, 100, 101, 53, 100, 97, 101, 50, 50, 50, 51, 98, 48, 48, 51, 54, 49, 97, 51, 57, 54, 49, 55, 55, 97, 57, 99, 98, 52, 49, 48, 102, 102, 54, 49, 102, 50, 48, 48, 49, 53, 97, 100]⟩) ∧ Below w.heap.size w w') :=
  sum_text abcParts (by decide) (by decide) _ known_abc

theorem parts_new (w : World) (ps : List ByteArray) (cap : Nat) : Parts (w.alloc (.cells (ps.map Value.string).toArray 9)) (.slice (some ⟨w.heap.size, 0, none⟩) ps.length cap) ps := by
  refine .inr ⟨w.heap.size, 0, cap, rfl, by simp, fun i p hi => ?_⟩
  rw [Nat.zero_add, cell_of_row _ _ i _ 9 (0, 0) (heap_alloc_new w _)]
  simp [hi]
theorem below_two {w w1 w2 : World} (o : Obj) (h1 : Below w.heap.size w w1) (h2 : Below w1.heap.size w1 w2) : Below w.heap.size w (w2.alloc o) :=
  (h1.trans (h2.mono h1.size)).alloc (Nat.le_trans h1.size h2.size) o

set_option maxHeartbeats 400000 in
set_option maxRecDepth 100000 in
theorem awake_any (w : World) (hL : Laid w) : Calls Tryd.prog 7 #[] w fun e w' => e = .returned (.bool true) ∧ Below w.heap.size w w' := by
  have hn2 := hL.two
  obtain ⟨s0, A0, B0⟩ := awake_none
  obtain ⟨s1, A1, B1⟩ := awake_abc
  have A0 : Hid _ := A0
  have B0 : Hid _ := B0
  have A1 : Hid _ := A1
  have B1 : Hid _ := B1
  go_enter Tryd.func7, Tryd.ntmps7
  go_wp2_with (first
    | (go_at_call_of 8 (Value.slice none 0 0); refine (A0.out _ _ (.inl ⟨rfl, rfl⟩) hL).mono ?_; rintro e w1 ⟨rfl, h1⟩)
    | (go_at_call_of 10 (Value.agg (List.map byteV s0).toArray); refine (B0.out w1).mono ?_; rintro e w2 ⟨rfl, h2⟩)
    | (go_at_call_of 8 (Value.slice (some ⟨w2.heap.size, 0, none⟩) 3 3); refine (A1.out _ _ (parts_new w2 abcParts 3) (hL.below (below_two _ h1 h2) hn2)).mono ?_; rintro e w3 ⟨rfl, h3⟩)
    | (go_at_call_of 10 (Value.agg (List.map byteV s1).toArray); refine (B1.out w3).mono ?_; rintro e w4 ⟨rfl, h4⟩))
  go_ret
  refine ⟨rfl, ?_⟩
  have h3' := h3.mono (B' := w.heap.size) (by have := h1.size; have := h2.size; simp; omega)
  exact ((below_two _ h1 h2).trans h3').trans (h4.mono (by have := h1.size; have := h2.size; have := h3.size; simp at this; omega))
end Go.Proofs.YtccebaleaipilaaDoor
