/- The function of the statement PackWrites, called with whatever things, numbers and texts that are not too great together, answers true. -/
import Derived.Test.YtlbdlipdhhpgmaaRef
import Derived.Test.YtlbdlipdhhpgmaaLie
namespace Go.Proofs.Ytlbdlipdhhpgmaa
open Go.RowKit

/-- A list of numbers, of texts in memory, or an empty one anywhere. -/
def NumsAt (w : World) (a : Option Addr) (vs : List Nat) : Prop := vs.length = 0 ∨ ∃ L o, a = some ⟨L, o, none⟩ ∧ L < w.heap.size ∧ ∀ (i : Nat) (x : Nat), vs[i]? = some x → w.cell? ⟨L, o + i, none⟩ = some (.int .u64 (x : Int))
def TextsAt (w : World) (a : Option Addr) (vs : List ByteArray) : Prop := vs.length = 0 ∨ ∃ L o, a = some ⟨L, o, none⟩ ∧ L < w.heap.size ∧ ∀ (i : Nat) (x : ByteArray), vs[i]? = some x → w.cell? ⟨L, o + i, none⟩ = some (.string x)
def ThingsAt (w : World) (a : Option Addr) (ts : List Th) : Prop := ts.length = 0 ∨ ∃ L o, a = some ⟨L, o, none⟩ ∧ L < w.heap.size ∧ Lie w L o ts
theorem NumsAt.below {w w' : World} {a : Option Addr} {vs : List Nat} {N : Nat} (h : NumsAt w a vs) (hN : w.heap.size = N) (hb : Below N w w') : NumsAt w' a vs := by
  subst hN
  rcases h with h | ⟨L, o, e, hL, hc⟩
  · exact .inl h
  · exact .inr ⟨L, o, e, Nat.lt_of_lt_of_le hL hb.size, fun i x hx => (World.cell?_of_block (hb.block L hL)).trans (hc i x hx)⟩
theorem TextsAt.below {w w' : World} {a : Option Addr} {vs : List ByteArray} {N : Nat} (h : TextsAt w a vs) (hN : w.heap.size = N) (hb : Below N w w') : TextsAt w' a vs := by
  subst hN
  rcases h with h | ⟨L, o, e, hL, hc⟩
  · exact .inl h
  · exact .inr ⟨L, o, e, Nat.lt_of_lt_of_le hL hb.size, fun i x hx => (World.cell?_of_block (hb.block L hL)).trans (hc i x hx)⟩
theorem ThingsAt.below {w w' : World} {a : Option Addr} {vs : List Th} {N : Nat} (h : ThingsAt w a vs) (hN : w.heap.size = N) (hb : Below N w w') : ThingsAt w' a vs := by
  subst hN
  rcases h with h | ⟨L, o, e, hL, hc⟩
  · exact .inl h
  · exact .inr ⟨L, o, e, Nat.lt_of_lt_of_le hL hb.size, hc.below hb hL⟩

theorem wnums_list (B : Nat) (bs : List UInt8) (vs : List Nat) (hv : ∀ x ∈ vs, x < 18446744073709551616) (a : Option Addr) (cap : Nat) (w w0 : World) (hw : Wr w B bs) (ha : NumsAt w0 a vs) (hB : w0.heap.size ≤ B) (hb : Below w0.heap.size w0 w)
    (hl : bs.length + (vs.flatMap numL).length + 10 ≤ 140737488355328) (hlen : vs.length < 9223372036854775807) :
    Calls Try.prog 12 #[.pointer (some ⟨B, 0, none⟩), .slice a vs.length cap] w fun e w' => e = .returned (.pointer (some ⟨B, 0, none⟩)) ∧ Wr w' B (bs ++ vs.flatMap numL) ∧ WUpd B w w' := by
  rcases ha.below rfl hb with h | ⟨L, o, rfl, hL, hc⟩
  · rw [h]
    have : vs = [] := List.eq_nil_of_length_eq_zero h
    subst this
    refine (wnums_none B bs a cap w hw).mono fun e w' ⟨h1, h2, h3⟩ => ⟨h1, by simpa using h2, h3 ▸ WUpd.refl B w⟩
  · rcases Nat.eq_zero_or_pos vs.length with h | hpos
    · rw [h]
      have : vs = [] := List.eq_nil_of_length_eq_zero h
      subst this
      exact (wnums_none B bs _ cap w hw).mono fun e w' ⟨h1, h2, h3⟩ => ⟨h1, by simpa using h2, h3 ▸ WUpd.refl B w⟩
    · have hL0 : L < w0.heap.size := by
        rcases ha with h | ⟨L', o', e, hL', _⟩
        · omega
        · cases e; exact hL'
      exact wnums_any B bs vs hv L o cap w hw ⟨hL, .inl (by omega)⟩ hc hl hlen
theorem wtexts_list (B : Nat) (bs : List UInt8) (vs : List ByteArray) (a : Option Addr) (cap : Nat) (w w0 : World) (hw : Wr w B bs) (ha : TextsAt w0 a vs) (hB : w0.heap.size ≤ B) (hb : Below w0.heap.size w0 w)
    (hl : bs.length + (vs.flatMap textL).length + 10 ≤ 140737488355328) (hlen : vs.length < 9223372036854775807) :
    Calls Try.prog 13 #[.pointer (some ⟨B, 0, none⟩), .slice a vs.length cap] w fun e w' => e = .returned (.pointer (some ⟨B, 0, none⟩)) ∧ Wr w' B (bs ++ vs.flatMap textL) ∧ WUpd B w w' := by
  rcases ha.below rfl hb with h | ⟨L, o, rfl, hL, hc⟩
  · rw [h]
    have : vs = [] := List.eq_nil_of_length_eq_zero h
    subst this
    refine (wtexts_none B bs a cap w hw).mono fun e w' ⟨h1, h2, h3⟩ => ⟨h1, by simpa using h2, h3 ▸ WUpd.refl B w⟩
  · rcases Nat.eq_zero_or_pos vs.length with h | hpos
    · rw [h]
      have : vs = [] := List.eq_nil_of_length_eq_zero h
      subst this
      exact (wtexts_none B bs _ cap w hw).mono fun e w' ⟨h1, h2, h3⟩ => ⟨h1, by simpa using h2, h3 ▸ WUpd.refl B w⟩
    · have hL0 : L < w0.heap.size := by
        rcases ha with h | ⟨L', o', e, hL', _⟩
        · omega
        · cases e; exact hL'
      exact wtexts_any B bs vs (fun _ _ => trivial) L o cap w hw ⟨hL, .inl (by omega)⟩ hc hl hlen

/-- The bytes of things. -/
def thB (t : Th) : List UInt8 := thL t.kind t.n t.s
theorem str_app (a b : List UInt8) : strL a ++ strL b = strL (a ++ b) := by
  apply str_ext'
  rw [ByteArray.data_append, Array.toList_append]; rfl
end Go.Proofs.Ytlbdlipdhhpgmaa
