/- The statement's own small functions: at, all, same. -/
import Derived.Test.YthaknjbcmflegaaEachs
namespace Go.Proofs.Ythaknjbcmflegaa
open Go.RowKit Go.Maps Go.WideMaps

def atS (ss : List ByteArray) (i : Nat) : ByteArray := match ss[i]? with | some s => s | none => ⟨#[]⟩
theorem at_any (N : Nat) (ss : List ByteArray) (i : Nat) (hi : i < 2) (a : Option Addr) (c : Nat) (w : World) (ha : LowStrs w N a ss) : Calls Try.prog 25 #[.slice a ss.length c, .int .i64 (i : Int)] w fun e w' => e = .returned (.string (atS ss i)) ∧ w' = w := by
  cases hs : ss[i]? with
  | none =>
    rw [show atS ss i = ⟨#[]⟩ by rw [atS, hs]]
    have hle : ss.length ≤ i := List.getElem?_eq_none_iff.1 hs
    have g1 : ¬ (i : Int) < (ss.length : Int) := by omega
    generalize ss.length = m at *
    clear ha hs
    go_enter Try.func25, Try.ntmps25
    go_wp2
    go_ret
    exact ⟨rfl, rfl⟩
  | some s =>
    rw [show atS ss i = s by rw [atS, hs]]
    have hlt := (List.getElem?_eq_some_iff.1 hs).1
    have g1 : (i : Int) < (ss.length : Int) := by omega
    rcases ha with h0 | ⟨g, o, rfl, _, hc⟩
    · omega
    have c0 := hc i s hs
    generalize ss.length = m at *
    clear hc hs
    go_enter Try.func25, Try.ntmps25
    go_wp2
    go_ret
    exact ⟨rfl, rfl⟩
set_option maxHeartbeats 800000 in
theorem all_any (N : Nat) (ss : List ByteArray) (hl : ss.length < 9223372036854775808) (hb : lens ss ≤ 140737488355328) (a : Option Addr) (c : Nat) (w : World) (ha : LowStrs w N a ss) : Calls Try.prog 32 #[.slice a ss.length c] w fun e w' => e = .returned (.string (strL (joins ss))) ∧ w' = w := by
  have HA : Hid (LowStrs w N a ss) := ha
  have HB : Hid (lens ss ≤ 140737488355328) := hb
  obtain ⟨m, hm⟩ : ∃ m, ss.length = m := ⟨_, rfl⟩
  have M : Hid (ss.length = m) := hm
  rw [hm] at hl ⊢
  clear ha hm hb
  go_enter Try.func32, Try.ntmps32
  go_wp2_with fail
  go_loopw [3, 4] (fun x c wr => ∃ k : Nat, k ≤ m ∧ c = .int .i64 (k : Int) ∧ x = .string (strL (joins (ss.take k))) ∧ wr = w) (fun _ c _ => m - (intOf c).toNat)
  case atStart => exact ⟨0, by omega, rfl, rfl, rfl⟩
  case round =>
    obtain ⟨k, hk, rfl, rfl, rfl⟩ := hrel
    by_cases hlt : k < m
    · obtain ⟨s, hs⟩ : ∃ s, ss[k]? = some s := ⟨ss[k]'(by have := M.out; omega), List.getElem?_eq_getElem _⟩
      rcases HA.out with h0 | ⟨g, o, rfl, _, hc⟩
      · have := M.out; omega
      have c0 := hc k s hs
      have hj := joins_take ss k s hs
      have hq2 : (strL (joins (ss.take k))).size + s.size ≤ 140737488355328 := by
        have h1 := lens_take ss k s hs
        have h2 := lens_take_le ss (k + 1)
        have h3 := joins_len (ss.take k)
        have h4 := HB.out
        rw [strL_size]; omega
      have hcat : Hid (strL (joins (ss.take k)) ++ s = strL (joins (ss.take (k + 1)))) := by
        show strL (joins (ss.take k)) ++ s = _
        rw [hj]
        apply ByteArray.ext
        apply Array.ext'
        simp [strL]
      generalize strL (joins (ss.take k)) = q at *
      clear hc hs hj
      go_wp2
      refine ⟨⟨k + 1, by omega, rfl, ?_, (by first | trivial | rfl)⟩, by simp; omega⟩
      rw [← hcat.out]
    · obtain rfl : k = m := by omega
      have hall : Hid (joins (ss.take k) = joins ss) := by show joins (ss.take k) = _; rw [← M.out, List.take_length]
      go_wp2
      go_ret
      exact ⟨by rw [← hall.out]; rfl, rfl⟩
/-- Texts in a row, wherever. -/
def TextsAt (w : World) (a : Option Addr) (l : List (List UInt8)) : Prop := ∀ (i : Nat) (x : List UInt8), l[i]? = some x → ∃ g o, a = some ⟨g, o, none⟩ ∧ w.cell? ⟨g, o + i, none⟩ = some (.string (strL x))
set_option maxHeartbeats 800000 in
theorem same_any (l : List (List UInt8)) (hl : l.length < 9223372036854775808) (a b : Option Addr) (c c' : Nat) (w : World) (ha : TextsAt w a l) (hb : TextsAt w b l) : Calls Try.prog 15 #[.slice a l.length c, .slice b l.length c'] w fun e w' => e = .returned (.bool true) ∧ Below w.heap.size w w' := by
  have HA : Hid (∀ W, Below w.heap.size w W → TextsAt W a l ∧ TextsAt W b l) := fun W hW => ⟨fun i x hx => by
    obtain ⟨g, o, e, hc⟩ := ha i x hx
    exact ⟨g, o, e, (hW.cell (cell_lt hc)).trans hc⟩, fun i x hx => by
    obtain ⟨g, o, e, hc⟩ := hb i x hx
    exact ⟨g, o, e, (hW.cell (cell_lt hc)).trans hc⟩⟩
  obtain ⟨m, hm⟩ : ∃ m, l.length = m := ⟨_, rfl⟩
  have M : Hid (l.length = m) := hm
  rw [hm] at hl ⊢
  clear ha hb hm
  go_enter Try.func15, Try.ntmps15
  go_wp2_with fail
  go_loopw [5] (fun c wr => ∃ k : Nat, k ≤ m ∧ c = .int .i64 (k : Int) ∧ Below w.heap.size w wr) (fun c _ => m - (intOf c).toNat)
  case atStart => exact ⟨0, by omega, rfl, Below.refl _ _⟩
  case round =>
    obtain ⟨k, hk, rfl, hB⟩ := hrel
    by_cases hlt : k < m
    · obtain ⟨x, hx⟩ : ∃ x, l[k]? = some x := ⟨l[k]'(by have := M.out; omega), List.getElem?_eq_getElem _⟩
      obtain ⟨h1, h2⟩ := HA.out wr hB
      obtain ⟨g, o, rfl, c0⟩ := h1 k x hx
      obtain ⟨g', o', rfl, c1⟩ := h2 k x hx
      have g1 : (k : Int) < (m : Int) := by omega
      have g2 : (0 : Int) ≤ (k : Int) := by omega
      have g3 : ((k : Int)).toNat = k := by omega
      generalize strL x = q at *
      have e1 : (q.toList == q.toList) = true := by simp
      have e2 : (q.toList != q.toList) = false := by simp
      clear h1 h2 hx
      go_wp2_with fail
      go_region
      go_wp2
      exact ⟨⟨k + 1, by omega, rfl, hB.drew⟩, by simp; omega⟩
    · obtain rfl : k = m := by omega
      go_wp2
      go_ret
      exact ⟨rfl, hB⟩
end Go.Proofs.Ythaknjbcmflegaa
