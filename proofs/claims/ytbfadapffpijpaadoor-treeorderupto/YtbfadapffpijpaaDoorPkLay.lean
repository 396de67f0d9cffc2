/- What lay does with each kind of thing, and the exported writings by it. -/
import Derived.Test.YtbfadapffpijpaaDoorPkWrite
namespace Go.Proofs.YtbfadapffpijpaaDoor.Pk
open Go.RowKit

/-- Block L is not touched by what the writer at B does. -/
def Keep (w : World) (L B : Nat) : Prop := L < w.heap.size ∧ (L < B ∨ (L ≠ B ∧ notByte w L))
theorem Keep.cell {w w' : World} {L B : Nat} (h : Keep w L B) (hu : WUpd B w w') (i : Nat) : w'.cell? ⟨L, i, none⟩ = w.cell? ⟨L, i, none⟩ := by
  refine World.cell?_of_block ?_
  rcases h.2 with h2 | ⟨h2, h3⟩
  · exact hu.low L h2
  · exact hu.other L h.1 h2 h3
theorem keep_new (w : World) (cs : List Value) (t : TypeId) (ht : t ≠ 5) (B : Nat) (hB : B < w.heap.size) : Keep (w.alloc (.cells cs.toArray t)) w.heap.size B :=
  ⟨by simp, .inr ⟨by omega, (holds_new w cs t).notByte ht⟩⟩
theorem take_flat {α : Type} (f : α → List UInt8) (vs : List α) (k : Nat) (x : α) (hx : vs[k]? = some x) : (vs.take (k + 1)).flatMap f = (vs.take k).flatMap f ++ f x := by
  rw [List.take_add_one, hx]; simp
theorem take_flat_len {α : Type} (f : α → List UInt8) (vs : List α) (k : Nat) : ((vs.take k).flatMap f).length ≤ (vs.flatMap f).length := by
  have h : vs.flatMap f = (vs.take k).flatMap f ++ (vs.drop k).flatMap f := by rw [← List.flatMap_append, List.take_append_drop]
  rw [h, List.length_append]; omega

def flagL (f : Bool) : List UInt8 := [if f then 1 else 0]
def rawL (s : ByteArray) : List UInt8 := s.data.toList

set_option maxHeartbeats 400000 in
set_option maxRecDepth 100000 in
theorem lay35_36 (B : Nat) (bs : List UInt8) (vs : List ByteArray) (hv : ∀ x ∈ vs, True) (L o cap : Nat) (w : World) (hw : Wr w B bs) (hL : Keep w L B)
    (hc : ∀ (i : Nat) (x : ByteArray), vs[i]? = some x → w.cell? ⟨L, o + i, none⟩ = some (.string x)) (hl : bs.length + (vs.flatMap textL).length + 10 ≤ 140737488355328) (hlen : vs.length < 9223372036854775807) :
    Calls Tryd.prog 57 #[.pointer (some ⟨B, 0, none⟩), .func (.func 58) #[.pointer (some ⟨B, 0, none⟩)] #[], .slice (some ⟨L, o, none⟩) vs.length cap] w fun e w' =>
      e = .returned (.pointer (some ⟨B, 0, none⟩)) ∧ Wr w' B (bs ++ vs.flatMap textL) ∧ WUpd B w w' := by
  have hel : Hid (∀ (x : ByteArray) (bs' : List UInt8) (W : World), True → Wr W B bs' → bs'.length + (textL x).length + 10 ≤ 140737488355328 → Calls Tryd.prog 58 #[.pointer (some ⟨B, 0, none⟩), (.string x)] W fun e w' => e = .returned (.tuple #[]) ∧ Wr w' B (bs' ++ textL x) ∧ WUpd B W w') :=
    fun x bs' W hx hW hb => wtext_any B bs' x (by have : x.size ≤ (textL x).length := (by unfold textL; simp); omega) W hW
  have hv : Hid (∀ x ∈ vs, True) := hv
  have hc : Hid (∀ (i : Nat) (x : ByteArray), vs[i]? = some x → w.cell? ⟨L, o + i, none⟩ = some (.string x)) := hc
  have hl : Hid (bs.length + (vs.flatMap textL).length + 10 ≤ 140737488355328) := hl
  obtain ⟨n, hn⟩ : ∃ n, vs.length = n := ⟨_, rfl⟩
  have HN : Hid (vs.length = n) := hn
  rw [hn] at hlen ⊢
  clear hn
  go_enter Tryd.func57, Tryd.ntmps57
  go_wp2_with fail
  go_loopw [13] (fun c wr => ∃ k : Nat, k ≤ n ∧ c = .int .i64 (k : Int) ∧ Wr wr B (bs ++ (vs.take k).flatMap textL) ∧ WUpd B w wr) (fun c _ => n - (intOf c).toNat)
  case atStart => exact ⟨0, by omega, rfl, by simpa using hw, WUpd.refl B w⟩
  case round =>
    obtain ⟨k, hk, rfl, hW, hU⟩ := hrel
    by_cases hlt : k < n
    · obtain ⟨x, hx⟩ : ∃ x, vs[k]? = some x := ⟨vs[k]'(by have := HN.out; omega), List.getElem?_eq_getElem _⟩
      have ck : wr.cell? ⟨L, o + k, none⟩ = some (.string x) := by rw [hL.cell hU]; exact hc.out k x hx
      have hxc := hv.out x (List.mem_of_getElem? hx)
      have hcall : Hid (Calls Tryd.prog 58 #[.pointer (some ⟨B, 0, none⟩), (.string x)] wr fun e w' => e = .returned (.tuple #[]) ∧ Wr w' B (bs ++ (vs.take (k + 1)).flatMap textL) ∧ WUpd B wr w') := by
        have := hel.out x _ wr hxc hW (by
          have h1 := take_flat_len textL vs (k + 1)
          rw [take_flat textL vs k x hx] at h1
          have h2 := hl.out
          simp only [List.length_append] at h1 ⊢
          omega)
        rw [List.append_assoc, ← take_flat textL vs k x hx] at this
        exact this
      clear hW
      have hX : Hid (vs[k]? = some x) := hx
      clear hx
      go_wp2_with (go_at_call 58; refine hcall.out.mono ?_; rintro e w2 ⟨rfl, h2, u2⟩)
      exact ⟨⟨k + 1, by omega, rfl, h2, hU.trans u2⟩, by simp; omega⟩
    · have htk : vs.take k = vs := List.take_of_length_le (by have := HN.out; omega)
      rw [htk] at hW
      clear htk
      go_wp2
      go_ret
      exact ⟨rfl, hW, hU⟩
set_option maxRecDepth 100000 in
theorem lay35_36_none (B : Nat) (bs : List UInt8) (a : Option Addr) (cap : Nat) (f : Value) (w : World) (hw : Wr w B bs) :
    Calls Tryd.prog 57 #[.pointer (some ⟨B, 0, none⟩), f, .slice a 0 cap] w fun e w' => e = .returned (.pointer (some ⟨B, 0, none⟩)) ∧ Wr w' B bs ∧ w' = w := by
  go_enter Tryd.func57, Tryd.ntmps57
  go_wp2
  refine wp_loop_rounds 1 ?_
  rw [rounds_succ]
  go_wp2
  go_ret
  exact ⟨rfl, hw, rfl⟩
set_option maxRecDepth 100000 in
theorem lay35_36_nil (f v : Value) (w : World) :
    Calls Tryd.prog 57 #[.pointer none, f, v] w fun e w' => e = .returned (.pointer none) ∧ w' = w := by
  go_enter Tryd.func57, Tryd.ntmps57
  go_wp2
  go_ret
  exact ⟨rfl, rfl⟩
set_option maxRecDepth 100000 in
theorem wtexts_any (B : Nat) (bs : List UInt8) (vs : List ByteArray) (hv : ∀ x ∈ vs, True) (L o cap : Nat) (w : World) (hw : Wr w B bs) (hL : Keep w L B)
    (hc : ∀ (i : Nat) (x : ByteArray), vs[i]? = some x → w.cell? ⟨L, o + i, none⟩ = some (.string x)) (hl : bs.length + (vs.flatMap textL).length + 10 ≤ 140737488355328) (hlen : vs.length < 9223372036854775807) :
    Calls Tryd.prog 47 #[.pointer (some ⟨B, 0, none⟩), .slice (some ⟨L, o, none⟩) vs.length cap] w fun e w' =>
      e = .returned (.pointer (some ⟨B, 0, none⟩)) ∧ Wr w' B (bs ++ vs.flatMap textL) ∧ WUpd B w w' := by
  have hcall : Hid (Calls Tryd.prog 57 #[.pointer (some ⟨B, 0, none⟩), .func (.func 58) #[.pointer (some ⟨B, 0, none⟩)] #[], .slice (some ⟨L, o, none⟩) vs.length cap] w fun e w' =>
      e = .returned (.pointer (some ⟨B, 0, none⟩)) ∧ Wr w' B (bs ++ vs.flatMap textL) ∧ WUpd B w w') := lay35_36 B bs vs hv L o cap w hw hL hc hl hlen
  clear hc hv hl
  go_enter Tryd.func47, Tryd.ntmps47
  go_wp2_with (go_at_call 57; refine hcall.out.mono ?_; rintro e w2 ⟨rfl, h2, u2⟩)
  go_ret
  exact ⟨rfl, h2, u2⟩
set_option maxRecDepth 100000 in
theorem wtexts_none (B : Nat) (bs : List UInt8) (a : Option Addr) (cap : Nat) (w : World) (hw : Wr w B bs) :
    Calls Tryd.prog 47 #[.pointer (some ⟨B, 0, none⟩), .slice a 0 cap] w fun e w' => e = .returned (.pointer (some ⟨B, 0, none⟩)) ∧ Wr w' B bs ∧ w' = w := by
  go_enter Tryd.func47, Tryd.ntmps47
  go_wp2_with (go_at_call 57; refine (lay35_36_none B bs a cap _ _ hw).mono ?_; rintro e w2 ⟨rfl, h2, rfl⟩)
  go_ret
  exact ⟨rfl, h2, rfl⟩
set_option maxRecDepth 100000 in
theorem wtexts_nil (v : Value) (w : World) :
    Calls Tryd.prog 47 #[.pointer none, v] w fun e w' => e = .returned (.pointer none) ∧ w' = w := by
  go_enter Tryd.func47, Tryd.ntmps47
  go_wp2_with (go_at_call 57; refine (lay35_36_nil _ _ _).mono ?_; rintro e w2 ⟨rfl, rfl⟩)
  go_ret
  exact ⟨rfl, rfl⟩
set_option maxHeartbeats 400000 in
set_option maxRecDepth 100000 in
theorem lay35_51 (B : Nat) (bs : List UInt8) (vs : List ByteArray) (hv : ∀ x ∈ vs, True) (L o cap : Nat) (w : World) (hw : Wr w B bs) (hL : Keep w L B)
    (hc : ∀ (i : Nat) (x : ByteArray), vs[i]? = some x → w.cell? ⟨L, o + i, none⟩ = some (.string x)) (hl : bs.length + (vs.flatMap rawL).length + 10 ≤ 140737488355328) (hlen : vs.length < 9223372036854775807) :
    Calls Tryd.prog 57 #[.pointer (some ⟨B, 0, none⟩), .func (.func 59) #[.pointer (some ⟨B, 0, none⟩)] #[], .slice (some ⟨L, o, none⟩) vs.length cap] w fun e w' =>
      e = .returned (.pointer (some ⟨B, 0, none⟩)) ∧ Wr w' B (bs ++ vs.flatMap rawL) ∧ WUpd B w w' := by
  have hel : Hid (∀ (x : ByteArray) (bs' : List UInt8) (W : World), True → Wr W B bs' → bs'.length + (rawL x).length + 10 ≤ 140737488355328 → Calls Tryd.prog 59 #[.pointer (some ⟨B, 0, none⟩), (.string x)] W fun e w' => e = .returned (.tuple #[]) ∧ Wr w' B (bs' ++ rawL x) ∧ WUpd B W w') :=
    fun x bs' W hx hW hb => wraw_any B bs' x (by have : (rawL x).length = x.size := rfl; omega) W hW
  have hv : Hid (∀ x ∈ vs, True) := hv
  have hc : Hid (∀ (i : Nat) (x : ByteArray), vs[i]? = some x → w.cell? ⟨L, o + i, none⟩ = some (.string x)) := hc
  have hl : Hid (bs.length + (vs.flatMap rawL).length + 10 ≤ 140737488355328) := hl
  obtain ⟨n, hn⟩ : ∃ n, vs.length = n := ⟨_, rfl⟩
  have HN : Hid (vs.length = n) := hn
  rw [hn] at hlen ⊢
  clear hn
  go_enter Tryd.func57, Tryd.ntmps57
  go_wp2_with fail
  go_loopw [13] (fun c wr => ∃ k : Nat, k ≤ n ∧ c = .int .i64 (k : Int) ∧ Wr wr B (bs ++ (vs.take k).flatMap rawL) ∧ WUpd B w wr) (fun c _ => n - (intOf c).toNat)
  case atStart => exact ⟨0, by omega, rfl, by simpa using hw, WUpd.refl B w⟩
  case round =>
    obtain ⟨k, hk, rfl, hW, hU⟩ := hrel
    by_cases hlt : k < n
    · obtain ⟨x, hx⟩ : ∃ x, vs[k]? = some x := ⟨vs[k]'(by have := HN.out; omega), List.getElem?_eq_getElem _⟩
      have ck : wr.cell? ⟨L, o + k, none⟩ = some (.string x) := by rw [hL.cell hU]; exact hc.out k x hx
      have hxc := hv.out x (List.mem_of_getElem? hx)
      have hcall : Hid (Calls Tryd.prog 59 #[.pointer (some ⟨B, 0, none⟩), (.string x)] wr fun e w' => e = .returned (.tuple #[]) ∧ Wr w' B (bs ++ (vs.take (k + 1)).flatMap rawL) ∧ WUpd B wr w') := by
        have := hel.out x _ wr hxc hW (by
          have h1 := take_flat_len rawL vs (k + 1)
          rw [take_flat rawL vs k x hx] at h1
          have h2 := hl.out
          simp only [List.length_append] at h1 ⊢
          omega)
        rw [List.append_assoc, ← take_flat rawL vs k x hx] at this
        exact this
      clear hW
      have hX : Hid (vs[k]? = some x) := hx
      clear hx
      go_wp2_with (go_at_call 59; refine hcall.out.mono ?_; rintro e w2 ⟨rfl, h2, u2⟩)
      exact ⟨⟨k + 1, by omega, rfl, h2, hU.trans u2⟩, by simp; omega⟩
    · have htk : vs.take k = vs := List.take_of_length_le (by have := HN.out; omega)
      rw [htk] at hW
      clear htk
      go_wp2
      go_ret
      exact ⟨rfl, hW, hU⟩
set_option maxRecDepth 100000 in
theorem lay35_51_none (B : Nat) (bs : List UInt8) (a : Option Addr) (cap : Nat) (f : Value) (w : World) (hw : Wr w B bs) :
    Calls Tryd.prog 57 #[.pointer (some ⟨B, 0, none⟩), f, .slice a 0 cap] w fun e w' => e = .returned (.pointer (some ⟨B, 0, none⟩)) ∧ Wr w' B bs ∧ w' = w := by
  go_enter Tryd.func57, Tryd.ntmps57
  go_wp2
  refine wp_loop_rounds 1 ?_
  rw [rounds_succ]
  go_wp2
  go_ret
  exact ⟨rfl, hw, rfl⟩
set_option maxRecDepth 100000 in
theorem lay35_51_nil (f v : Value) (w : World) :
    Calls Tryd.prog 57 #[.pointer none, f, v] w fun e w' => e = .returned (.pointer none) ∧ w' = w := by
  go_enter Tryd.func57, Tryd.ntmps57
  go_wp2
  go_ret
  exact ⟨rfl, rfl⟩
set_option maxRecDepth 100000 in
theorem wraws_any (B : Nat) (bs : List UInt8) (vs : List ByteArray) (hv : ∀ x ∈ vs, True) (L o cap : Nat) (w : World) (hw : Wr w B bs) (hL : Keep w L B)
    (hc : ∀ (i : Nat) (x : ByteArray), vs[i]? = some x → w.cell? ⟨L, o + i, none⟩ = some (.string x)) (hl : bs.length + (vs.flatMap rawL).length + 10 ≤ 140737488355328) (hlen : vs.length < 9223372036854775807) :
    Calls Tryd.prog 48 #[.pointer (some ⟨B, 0, none⟩), .slice (some ⟨L, o, none⟩) vs.length cap] w fun e w' =>
      e = .returned (.pointer (some ⟨B, 0, none⟩)) ∧ Wr w' B (bs ++ vs.flatMap rawL) ∧ WUpd B w w' := by
  have hcall : Hid (Calls Tryd.prog 57 #[.pointer (some ⟨B, 0, none⟩), .func (.func 59) #[.pointer (some ⟨B, 0, none⟩)] #[], .slice (some ⟨L, o, none⟩) vs.length cap] w fun e w' =>
      e = .returned (.pointer (some ⟨B, 0, none⟩)) ∧ Wr w' B (bs ++ vs.flatMap rawL) ∧ WUpd B w w') := lay35_51 B bs vs hv L o cap w hw hL hc hl hlen
  clear hc hv hl
  go_enter Tryd.func48, Tryd.ntmps48
  go_wp2_with (go_at_call 57; refine hcall.out.mono ?_; rintro e w2 ⟨rfl, h2, u2⟩)
  go_ret
  exact ⟨rfl, h2, u2⟩
set_option maxRecDepth 100000 in
theorem wraws_none (B : Nat) (bs : List UInt8) (a : Option Addr) (cap : Nat) (w : World) (hw : Wr w B bs) :
    Calls Tryd.prog 48 #[.pointer (some ⟨B, 0, none⟩), .slice a 0 cap] w fun e w' => e = .returned (.pointer (some ⟨B, 0, none⟩)) ∧ Wr w' B bs ∧ w' = w := by
  go_enter Tryd.func48, Tryd.ntmps48
  go_wp2_with (go_at_call 57; refine (lay35_51_none B bs a cap _ _ hw).mono ?_; rintro e w2 ⟨rfl, h2, rfl⟩)
  go_ret
  exact ⟨rfl, h2, rfl⟩
set_option maxRecDepth 100000 in
theorem wraws_nil (v : Value) (w : World) :
    Calls Tryd.prog 48 #[.pointer none, v] w fun e w' => e = .returned (.pointer none) ∧ w' = w := by
  go_enter Tryd.func48, Tryd.ntmps48
  go_wp2_with (go_at_call 57; refine (lay35_51_nil _ _ _).mono ?_; rintro e w2 ⟨rfl, rfl⟩)
  go_ret
  exact ⟨rfl, rfl⟩
end Go.Proofs.YtbfadapffpijpaaDoor.Pk
