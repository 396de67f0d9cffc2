/- What lay does with each kind of thing, and the exported writings by it. -/
import Derived.Test.YtbmeflildmeecaaPkWrite
namespace Go.Proofs.Ytbmeflildmeecaa.Pk
open Go.RowKit

/-- Block L is not touched by what the writer at B does. -/
def Keep (w : World) (L B : Nat) : Prop := L < w.heap.size ∧ (L < B ∨ (L ≠ B ∧ notByte w L))
theorem Keep.cell {w w' : World} {L B : Nat} (h : Keep w L B) (hu : WUpd B w w') (i : Nat) : w'.cell? ⟨L, i, none⟩ = w.cell? ⟨L, i, none⟩ := by
  refine World.cell?_of_block ?_
  rcases h.2 with h2 | ⟨h2, h3⟩
  · exact hu.low L h2
  · exact hu.other L h.1 h2 h3
theorem keep_new (w : World) (cs : List Value) (t : TypeId) (ht : t ≠ 5) (B : Nat) (hB : B < w.heap.size) : Keep (w.alloc (.cells cs.toArray t)) w.heap.size B :=
  ⟨by simp, .inr ⟨by omega, (holds_new w cs t).notByte ht⟩⟩
theorem take_flat {α : Type} (f : α → List UInt8) (vs : List α) (k : Nat) (x : α) (hx : vs[k]? = some x) : (vs.take (k + 1)).flatMap f = (vs.take k).flatMap f ++ f x := by
  rw [List.take_add_one, hx]; simp
theorem take_flat_len {α : Type} (f : α → List UInt8) (vs : List α) (k : Nat) : ((vs.take k).flatMap f).length ≤ (vs.flatMap f).length := by
  have h : vs.flatMap f = (vs.take k).flatMap f ++ (vs.drop k).flatMap f := by rw [← List.flatMap_append, List.take_append_drop]
  rw [h, List.length_append]; omega

def flagL (f : Bool) : List UInt8 := [if f then 1 else 0]
def rawL (s : ByteArray) : List UInt8 := s.data.toList

set_option maxHeartbeats 400000 in
set_option maxRecDepth 100000 in
theorem lay33_34 (B : Nat) (bs : List UInt8) (vs : List Nat) (hv : ∀ x ∈ vs, x < 18446744073709551616) (L o cap : Nat) (w : World) (hw : Wr w B bs) (hL : Keep w L B)
    (hc : ∀ (i : Nat) (x : Nat), vs[i]? = some x → w.cell? ⟨L, o + i, none⟩ = some (.int .u64 (x : Int))) (hl : bs.length + (vs.flatMap numL).length + 10 ≤ 140737488355328) (hlen : vs.length < 9223372036854775807) :
    Calls Try.prog 60 #[.pointer (some ⟨B, 0, none⟩), .func (.func 61) #[.pointer (some ⟨B, 0, none⟩)] #[], .slice (some ⟨L, o, none⟩) vs.length cap] w fun e w' =>
      e = .returned (.pointer (some ⟨B, 0, none⟩)) ∧ Wr w' B (bs ++ vs.flatMap numL) ∧ WUpd B w w' := by
  have hel : Hid (∀ (x : Nat) (bs' : List UInt8) (W : World), x < 18446744073709551616 → Wr W B bs' → bs'.length + (numL x).length + 10 ≤ 140737488355328 → Calls Try.prog 61 #[.pointer (some ⟨B, 0, none⟩), (.int .u64 (x : Int))] W fun e w' => e = .returned (.tuple #[]) ∧ Wr w' B (bs' ++ numL x) ∧ WUpd B W w') :=
    fun x bs' W hx hW hb => wnum_any B bs' x hx (by omega) W hW
  have hv : Hid (∀ x ∈ vs, x < 18446744073709551616) := hv
  have hc : Hid (∀ (i : Nat) (x : Nat), vs[i]? = some x → w.cell? ⟨L, o + i, none⟩ = some (.int .u64 (x : Int))) := hc
  have hl : Hid (bs.length + (vs.flatMap numL).length + 10 ≤ 140737488355328) := hl
  obtain ⟨n, hn⟩ : ∃ n, vs.length = n := ⟨_, rfl⟩
  have HN : Hid (vs.length = n) := hn
  rw [hn] at hlen ⊢
  clear hn
  go_enter Try.func60, Try.ntmps60
  go_wp2_with fail
  go_loopw [13] (fun c wr => ∃ k : Nat, k ≤ n ∧ c = .int .i64 (k : Int) ∧ Wr wr B (bs ++ (vs.take k).flatMap numL) ∧ WUpd B w wr) (fun c _ => n - (intOf c).toNat)
  case atStart => exact ⟨0, by omega, rfl, by simpa using hw, WUpd.refl B w⟩
  case round =>
    obtain ⟨k, hk, rfl, hW, hU⟩ := hrel
    by_cases hlt : k < n
    · obtain ⟨x, hx⟩ : ∃ x, vs[k]? = some x := ⟨vs[k]'(by have := HN.out; omega), List.getElem?_eq_getElem _⟩
      have ck : wr.cell? ⟨L, o + k, none⟩ = some (.int .u64 (x : Int)) := by rw [hL.cell hU]; exact hc.out k x hx
      have hxc := hv.out x (List.mem_of_getElem? hx)
      have hcall : Hid (Calls Try.prog 61 #[.pointer (some ⟨B, 0, none⟩), (.int .u64 (x : Int))] wr fun e w' => e = .returned (.tuple #[]) ∧ Wr w' B (bs ++ (vs.take (k + 1)).flatMap numL) ∧ WUpd B wr w') := by
        have := hel.out x _ wr hxc hW (by
          have h1 := take_flat_len numL vs (k + 1)
          rw [take_flat numL vs k x hx] at h1
          have h2 := hl.out
          simp only [List.length_append] at h1 ⊢
          omega)
        rw [List.append_assoc, ← take_flat numL vs k x hx] at this
        exact this
      clear hW
      have hX : Hid (vs[k]? = some x) := hx
      clear hx
      go_wp2_with (go_at_call 61; refine hcall.out.mono ?_; rintro e w2 ⟨rfl, h2, u2⟩)
      exact ⟨⟨k + 1, by omega, rfl, h2, hU.trans u2⟩, by simp; omega⟩
    · have htk : vs.take k = vs := List.take_of_length_le (by have := HN.out; omega)
      rw [htk] at hW
      clear htk
      go_wp2
      go_ret
      exact ⟨rfl, hW, hU⟩
set_option maxRecDepth 100000 in
theorem lay33_34_none (B : Nat) (bs : List UInt8) (a : Option Addr) (cap : Nat) (f : Value) (w : World) (hw : Wr w B bs) :
    Calls Try.prog 60 #[.pointer (some ⟨B, 0, none⟩), f, .slice a 0 cap] w fun e w' => e = .returned (.pointer (some ⟨B, 0, none⟩)) ∧ Wr w' B bs ∧ w' = w := by
  go_enter Try.func60, Try.ntmps60
  go_wp2
  refine wp_loop_rounds 1 ?_
  rw [rounds_succ]
  go_wp2
  go_ret
  exact ⟨rfl, hw, rfl⟩
set_option maxRecDepth 100000 in
theorem lay33_34_nil (f v : Value) (w : World) :
    Calls Try.prog 60 #[.pointer none, f, v] w fun e w' => e = .returned (.pointer none) ∧ w' = w := by
  go_enter Try.func60, Try.ntmps60
  go_wp2
  go_ret
  exact ⟨rfl, rfl⟩
set_option maxRecDepth 100000 in
theorem wnums_any (B : Nat) (bs : List UInt8) (vs : List Nat) (hv : ∀ x ∈ vs, x < 18446744073709551616) (L o cap : Nat) (w : World) (hw : Wr w B bs) (hL : Keep w L B)
    (hc : ∀ (i : Nat) (x : Nat), vs[i]? = some x → w.cell? ⟨L, o + i, none⟩ = some (.int .u64 (x : Int))) (hl : bs.length + (vs.flatMap numL).length + 10 ≤ 140737488355328) (hlen : vs.length < 9223372036854775807) :
    Calls Try.prog 45 #[.pointer (some ⟨B, 0, none⟩), .slice (some ⟨L, o, none⟩) vs.length cap] w fun e w' =>
      e = .returned (.pointer (some ⟨B, 0, none⟩)) ∧ Wr w' B (bs ++ vs.flatMap numL) ∧ WUpd B w w' := by
  have hcall : Hid (Calls Try.prog 60 #[.pointer (some ⟨B, 0, none⟩), .func (.func 61) #[.pointer (some ⟨B, 0, none⟩)] #[], .slice (some ⟨L, o, none⟩) vs.length cap] w fun e w' =>
      e = .returned (.pointer (some ⟨B, 0, none⟩)) ∧ Wr w' B (bs ++ vs.flatMap numL) ∧ WUpd B w w') := lay33_34 B bs vs hv L o cap w hw hL hc hl hlen
  clear hc hv hl
  go_enter Try.func45, Try.ntmps45
  go_wp2_with (go_at_call 60; refine hcall.out.mono ?_; rintro e w2 ⟨rfl, h2, u2⟩)
  go_ret
  exact ⟨rfl, h2, u2⟩
set_option maxRecDepth 100000 in
theorem wnums_none (B : Nat) (bs : List UInt8) (a : Option Addr) (cap : Nat) (w : World) (hw : Wr w B bs) :
    Calls Try.prog 45 #[.pointer (some ⟨B, 0, none⟩), .slice a 0 cap] w fun e w' => e = .returned (.pointer (some ⟨B, 0, none⟩)) ∧ Wr w' B bs ∧ w' = w := by
  go_enter Try.func45, Try.ntmps45
  go_wp2_with (go_at_call 60; refine (lay33_34_none B bs a cap _ _ hw).mono ?_; rintro e w2 ⟨rfl, h2, rfl⟩)
  go_ret
  exact ⟨rfl, h2, rfl⟩
set_option maxRecDepth 100000 in
theorem wnums_nil (v : Value) (w : World) :
    Calls Try.prog 45 #[.pointer none, v] w fun e w' => e = .returned (.pointer none) ∧ w' = w := by
  go_enter Try.func45, Try.ntmps45
  go_wp2_with (go_at_call 60; refine (lay33_34_nil _ _ _).mono ?_; rintro e w2 ⟨rfl, rfl⟩)
  go_ret
  exact ⟨rfl, rfl⟩
end Go.Proofs.Ytbmeflildmeecaa.Pk
