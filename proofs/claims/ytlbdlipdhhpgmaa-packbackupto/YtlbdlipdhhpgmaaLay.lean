/- What lay does with each kind of thing, and the exported writings by it. -/
import Derived.Test.YtlbdlipdhhpgmaaWrite
namespace Go.Proofs.Ytlbdlipdhhpgmaa
open Go.RowKit

/-- Block L is not touched by what the writer at B does. -/
def Keep (w : World) (L B : Nat) : Prop := L < w.heap.size ∧ (L < B ∨ (L ≠ B ∧ notByte w L))
theorem Keep.cell {w w' : World} {L B : Nat} (h : Keep w L B) (hu : WUpd B w w') (i : Nat) : w'.cell? ⟨L, i, none⟩ = w.cell? ⟨L, i, none⟩ := by
  refine World.cell?_of_block ?_
  rcases h.2 with h2 | ⟨h2, h3⟩
  · exact hu.low L h2
  · exact hu.other L h.1 h2 h3
theorem keep_new (w : World) (cs : List Value) (t : TypeId) (ht : t ≠ 5) (B : Nat) (hB : B < w.heap.size) : Keep (w.alloc (.cells cs.toArray t)) w.heap.size B :=
  ⟨by simp, .inr ⟨by omega, (holds_new w cs t).notByte ht⟩⟩
theorem take_flat {α : Type} (f : α → List UInt8) (vs : List α) (k : Nat) (x : α) (hx : vs[k]? = some x) : (vs.take (k + 1)).flatMap f = (vs.take k).flatMap f ++ f x := by
  rw [List.take_add_one, hx]; simp
theorem take_flat_len {α : Type} (f : α → List UInt8) (vs : List α) (k : Nat) : ((vs.take k).flatMap f).length ≤ (vs.flatMap f).length := by
  have h : vs.flatMap f = (vs.take k).flatMap f ++ (vs.drop k).flatMap f := by rw [← List.flatMap_append, List.take_append_drop]
  rw [h, List.length_append]; omega

def flagL (f : Bool) : List UInt8 := [if f then 1 else 0]
def rawL (s : ByteArray) : List UInt8 := s.data.toList

set_option maxHeartbeats 400000 in
set_option maxRecDepth 100000 in
theorem lay33_34 (B : Nat) (bs : List UInt8) (vs : List Nat) (hv : ∀ x ∈ vs, x < 18446744073709551616) (L o cap : Nat) (w : World) (hw : Wr w B bs) (hL : Keep w L B)
    (hc : ∀ (i : Nat) (x : Nat), vs[i]? = some x → w.cell? ⟨L, o + i, none⟩ = some (.int .u64 (x : Int))) (hl : bs.length + (vs.flatMap numL).length + 10 ≤ 140737488355328) (hlen : vs.length < 9223372036854775807) :
    Calls Try.prog 33 #[.pointer (some ⟨B, 0, none⟩), .func (.func 34) #[.pointer (some ⟨B, 0, none⟩)] #[], .slice (some ⟨L, o, none⟩) vs.length cap] w fun e w' =>
      e = .returned (.pointer (some ⟨B, 0, none⟩)) ∧ Wr w' B (bs ++ vs.flatMap numL) ∧ WUpd B w w' := by
  have hel : Hid (∀ (x : Nat) (bs' : List UInt8) (W : World), x < 18446744073709551616 → Wr W B bs' → bs'.length + (numL x).length + 10 ≤ 140737488355328 → Calls Try.prog 34 #[.pointer (some ⟨B, 0, none⟩), (.int .u64 (x : Int))] W fun e w' => e = .returned (.tuple #[]) ∧ Wr w' B (bs' ++ numL x) ∧ WUpd B W w') :=
    fun x bs' W hx hW hb => wnum_any B bs' x hx (by omega) W hW
  have hv : Hid (∀ x ∈ vs, x < 18446744073709551616) := hv
  have hc : Hid (∀ (i : Nat) (x : Nat), vs[i]? = some x → w.cell? ⟨L, o + i, none⟩ = some (.int .u64 (x : Int))) := hc
  have hl : Hid (bs.length + (vs.flatMap numL).length + 10 ≤ 140737488355328) := hl
  obtain ⟨n, hn⟩ : ∃ n, vs.length = n := ⟨_, rfl⟩
  have HN : Hid (vs.length = n) := hn
  rw [hn] at hlen ⊢
  clear hn
  go_enter Try.func33, Try.ntmps33
  go_wp2_with fail
  go_loopw [13] (fun c wr => ∃ k : Nat, k ≤ n ∧ c = .int .i64 (k : Int) ∧ Wr wr B (bs ++ (vs.take k).flatMap numL) ∧ WUpd B w wr) (fun c _ => n - (intOf c).toNat)
  case atStart => exact ⟨0, by omega, rfl, by simpa using hw, WUpd.refl B w⟩
  case round =>
    obtain ⟨k, hk, rfl, hW, hU⟩ := hrel
    by_cases hlt : k < n
    · obtain ⟨x, hx⟩ : ∃ x, vs[k]? = some x := ⟨vs[k]'(by have := HN.out; omega), List.getElem?_eq_getElem _⟩
      have ck : wr.cell? ⟨L, o + k, none⟩ = some (.int .u64 (x : Int)) := by rw [hL.cell hU]; exact hc.out k x hx
      have hxc := hv.out x (List.mem_of_getElem? hx)
      have hcall : Hid (Calls Try.prog 34 #[.pointer (some ⟨B, 0, none⟩), (.int .u64 (x : Int))] wr fun e w' => e = .returned (.tuple #[]) ∧ Wr w' B (bs ++ (vs.take (k + 1)).flatMap numL) ∧ WUpd B wr w') := by
        have := hel.out x _ wr hxc hW (by
          have h1 := take_flat_len numL vs (k + 1)
          rw [take_flat numL vs k x hx] at h1
          have h2 := hl.out
          simp only [List.length_append] at h1 ⊢
          omega)
        rw [List.append_assoc, ← take_flat numL vs k x hx] at this
        exact this
      clear hW
      have hX : Hid (vs[k]? = some x) := hx
      clear hx
      go_wp2_with (go_at_call 34; refine hcall.out.mono ?_; rintro e w2 ⟨rfl, h2, u2⟩)
      exact ⟨⟨k + 1, by omega, rfl, h2, hU.trans u2⟩, by simp; omega⟩
    · have htk : vs.take k = vs := List.take_of_length_le (by have := HN.out; omega)
      rw [htk] at hW
      clear htk
      go_wp2
      go_ret
      exact ⟨rfl, hW, hU⟩
set_option maxRecDepth 100000 in
theorem lay33_34_none (B : Nat) (bs : List UInt8) (a : Option Addr) (cap : Nat) (f : Value) (w : World) (hw : Wr w B bs) :
    Calls Try.prog 33 #[.pointer (some ⟨B, 0, none⟩), f, .slice a 0 cap] w fun e w' => e = .returned (.pointer (some ⟨B, 0, none⟩)) ∧ Wr w' B bs ∧ w' = w := by
  go_enter Try.func33, Try.ntmps33
  go_wp2
  refine wp_loop_rounds 1 ?_
  rw [rounds_succ]
  go_wp2
  go_ret
  exact ⟨rfl, hw, rfl⟩
set_option maxRecDepth 100000 in
theorem lay33_34_nil (f v : Value) (w : World) :
    Calls Try.prog 33 #[.pointer none, f, v] w fun e w' => e = .returned (.pointer none) ∧ w' = w := by
  go_enter Try.func33, Try.ntmps33
  go_wp2
  go_ret
  exact ⟨rfl, rfl⟩
set_option maxRecDepth 100000 in
theorem wnums_any (B : Nat) (bs : List UInt8) (vs : List Nat) (hv : ∀ x ∈ vs, x < 18446744073709551616) (L o cap : Nat) (w : World) (hw : Wr w B bs) (hL : Keep w L B)
    (hc : ∀ (i : Nat) (x : Nat), vs[i]? = some x → w.cell? ⟨L, o + i, none⟩ = some (.int .u64 (x : Int))) (hl : bs.length + (vs.flatMap numL).length + 10 ≤ 140737488355328) (hlen : vs.length < 9223372036854775807) :
    Calls Try.prog 12 #[.pointer (some ⟨B, 0, none⟩), .slice (some ⟨L, o, none⟩) vs.length cap] w fun e w' =>
      e = .returned (.pointer (some ⟨B, 0, none⟩)) ∧ Wr w' B (bs ++ vs.flatMap numL) ∧ WUpd B w w' := by
  have hcall : Hid (Calls Try.prog 33 #[.pointer (some ⟨B, 0, none⟩), .func (.func 34) #[.pointer (some ⟨B, 0, none⟩)] #[], .slice (some ⟨L, o, none⟩) vs.length cap] w fun e w' =>
      e = .returned (.pointer (some ⟨B, 0, none⟩)) ∧ Wr w' B (bs ++ vs.flatMap numL) ∧ WUpd B w w') := lay33_34 B bs vs hv L o cap w hw hL hc hl hlen
  clear hc hv hl
  go_enter Try.func12, Try.ntmps12
  go_wp2_with (go_at_call 33; refine hcall.out.mono ?_; rintro e w2 ⟨rfl, h2, u2⟩)
  go_ret
  exact ⟨rfl, h2, u2⟩
set_option maxRecDepth 100000 in
theorem wnums_none (B : Nat) (bs : List UInt8) (a : Option Addr) (cap : Nat) (w : World) (hw : Wr w B bs) :
    Calls Try.prog 12 #[.pointer (some ⟨B, 0, none⟩), .slice a 0 cap] w fun e w' => e = .returned (.pointer (some ⟨B, 0, none⟩)) ∧ Wr w' B bs ∧ w' = w := by
  go_enter Try.func12, Try.ntmps12
  go_wp2_with (go_at_call 33; refine (lay33_34_none B bs a cap _ _ hw).mono ?_; rintro e w2 ⟨rfl, h2, rfl⟩)
  go_ret
  exact ⟨rfl, h2, rfl⟩
set_option maxRecDepth 100000 in
theorem wnums_nil (v : Value) (w : World) :
    Calls Try.prog 12 #[.pointer none, v] w fun e w' => e = .returned (.pointer none) ∧ w' = w := by
  go_enter Try.func12, Try.ntmps12
  go_wp2_with (go_at_call 33; refine (lay33_34_nil _ _ _).mono ?_; rintro e w2 ⟨rfl, rfl⟩)
  go_ret
  exact ⟨rfl, rfl⟩
set_option maxHeartbeats 400000 in
set_option maxRecDepth 100000 in
theorem lay47_48 (B : Nat) (bs : List UInt8) (vs : List Int) (hv : ∀ x ∈ vs, (-9223372036854775808 ≤ x ∧ x < 9223372036854775808)) (L o cap : Nat) (w : World) (hw : Wr w B bs) (hL : Keep w L B)
    (hc : ∀ (i : Nat) (x : Int), vs[i]? = some x → w.cell? ⟨L, o + i, none⟩ = some (.int .i64 x)) (hl : bs.length + (vs.flatMap (fun x => numL (zig x))).length + 10 ≤ 140737488355328) (hlen : vs.length < 9223372036854775807) :
    Calls Try.prog 47 #[.pointer (some ⟨B, 0, none⟩), .func (.func 48) #[.pointer (some ⟨B, 0, none⟩)] #[], .slice (some ⟨L, o, none⟩) vs.length cap] w fun e w' =>
      e = .returned (.pointer (some ⟨B, 0, none⟩)) ∧ Wr w' B (bs ++ vs.flatMap (fun x => numL (zig x))) ∧ WUpd B w w' := by
  have hel : Hid (∀ (x : Int) (bs' : List UInt8) (W : World), (-9223372036854775808 ≤ x ∧ x < 9223372036854775808) → Wr W B bs' → bs'.length + ((fun x => numL (zig x)) x).length + 10 ≤ 140737488355328 → Calls Try.prog 48 #[.pointer (some ⟨B, 0, none⟩), (.int .i64 x)] W fun e w' => e = .returned (.tuple #[]) ∧ Wr w' B (bs' ++ (fun x => numL (zig x)) x) ∧ WUpd B W w') :=
    fun x bs' W hx hW hb => winteger_any B bs' x hx (by omega) W hW
  have hv : Hid (∀ x ∈ vs, (-9223372036854775808 ≤ x ∧ x < 9223372036854775808)) := hv
  have hc : Hid (∀ (i : Nat) (x : Int), vs[i]? = some x → w.cell? ⟨L, o + i, none⟩ = some (.int .i64 x)) := hc
  have hl : Hid (bs.length + (vs.flatMap (fun x => numL (zig x))).length + 10 ≤ 140737488355328) := hl
  obtain ⟨n, hn⟩ : ∃ n, vs.length = n := ⟨_, rfl⟩
  have HN : Hid (vs.length = n) := hn
  rw [hn] at hlen ⊢
  clear hn
  go_enter Try.func47, Try.ntmps47
  go_wp2_with fail
  go_loopw [13] (fun c wr => ∃ k : Nat, k ≤ n ∧ c = .int .i64 (k : Int) ∧ Wr wr B (bs ++ (vs.take k).flatMap (fun x => numL (zig x))) ∧ WUpd B w wr) (fun c _ => n - (intOf c).toNat)
  case atStart => exact ⟨0, by omega, rfl, by simpa using hw, WUpd.refl B w⟩
  case round =>
    obtain ⟨k, hk, rfl, hW, hU⟩ := hrel
    by_cases hlt : k < n
    · obtain ⟨x, hx⟩ : ∃ x, vs[k]? = some x := ⟨vs[k]'(by have := HN.out; omega), List.getElem?_eq_getElem _⟩
      have ck : wr.cell? ⟨L, o + k, none⟩ = some (.int .i64 x) := by rw [hL.cell hU]; exact hc.out k x hx
      have hxc := hv.out x (List.mem_of_getElem? hx)
      have hcall : Hid (Calls Try.prog 48 #[.pointer (some ⟨B, 0, none⟩), (.int .i64 x)] wr fun e w' => e = .returned (.tuple #[]) ∧ Wr w' B (bs ++ (vs.take (k + 1)).flatMap (fun x => numL (zig x))) ∧ WUpd B wr w') := by
        have := hel.out x _ wr hxc hW (by
          have h1 := take_flat_len (fun x => numL (zig x)) vs (k + 1)
          rw [take_flat (fun x => numL (zig x)) vs k x hx] at h1
          have h2 := hl.out
          simp only [List.length_append] at h1 ⊢
          omega)
        rw [List.append_assoc, ← take_flat (fun x => numL (zig x)) vs k x hx] at this
        exact this
      clear hW
      have hX : Hid (vs[k]? = some x) := hx
      clear hx
      go_wp2_with (go_at_call 48; refine hcall.out.mono ?_; rintro e w2 ⟨rfl, h2, u2⟩)
      exact ⟨⟨k + 1, by omega, rfl, h2, hU.trans u2⟩, by simp; omega⟩
    · have htk : vs.take k = vs := List.take_of_length_le (by have := HN.out; omega)
      rw [htk] at hW
      clear htk
      go_wp2
      go_ret
      exact ⟨rfl, hW, hU⟩
set_option maxRecDepth 100000 in
theorem lay47_48_none (B : Nat) (bs : List UInt8) (a : Option Addr) (cap : Nat) (f : Value) (w : World) (hw : Wr w B bs) :
    Calls Try.prog 47 #[.pointer (some ⟨B, 0, none⟩), f, .slice a 0 cap] w fun e w' => e = .returned (.pointer (some ⟨B, 0, none⟩)) ∧ Wr w' B bs ∧ w' = w := by
  go_enter Try.func47, Try.ntmps47
  go_wp2
  refine wp_loop_rounds 1 ?_
  rw [rounds_succ]
  go_wp2
  go_ret
  exact ⟨rfl, hw, rfl⟩
set_option maxRecDepth 100000 in
theorem lay47_48_nil (f v : Value) (w : World) :
    Calls Try.prog 47 #[.pointer none, f, v] w fun e w' => e = .returned (.pointer none) ∧ w' = w := by
  go_enter Try.func47, Try.ntmps47
  go_wp2
  go_ret
  exact ⟨rfl, rfl⟩
set_option maxRecDepth 100000 in
theorem wints_any (B : Nat) (bs : List UInt8) (vs : List Int) (hv : ∀ x ∈ vs, (-9223372036854775808 ≤ x ∧ x < 9223372036854775808)) (L o cap : Nat) (w : World) (hw : Wr w B bs) (hL : Keep w L B)
    (hc : ∀ (i : Nat) (x : Int), vs[i]? = some x → w.cell? ⟨L, o + i, none⟩ = some (.int .i64 x)) (hl : bs.length + (vs.flatMap (fun x => numL (zig x))).length + 10 ≤ 140737488355328) (hlen : vs.length < 9223372036854775807) :
    Calls Try.prog 28 #[.pointer (some ⟨B, 0, none⟩), .slice (some ⟨L, o, none⟩) vs.length cap] w fun e w' =>
      e = .returned (.pointer (some ⟨B, 0, none⟩)) ∧ Wr w' B (bs ++ vs.flatMap (fun x => numL (zig x))) ∧ WUpd B w w' := by
  have hcall : Hid (Calls Try.prog 47 #[.pointer (some ⟨B, 0, none⟩), .func (.func 48) #[.pointer (some ⟨B, 0, none⟩)] #[], .slice (some ⟨L, o, none⟩) vs.length cap] w fun e w' =>
      e = .returned (.pointer (some ⟨B, 0, none⟩)) ∧ Wr w' B (bs ++ vs.flatMap (fun x => numL (zig x))) ∧ WUpd B w w') := lay47_48 B bs vs hv L o cap w hw hL hc hl hlen
  clear hc hv hl
  go_enter Try.func28, Try.ntmps28
  go_wp2_with (go_at_call 47; refine hcall.out.mono ?_; rintro e w2 ⟨rfl, h2, u2⟩)
  go_ret
  exact ⟨rfl, h2, u2⟩
set_option maxRecDepth 100000 in
theorem wints_none (B : Nat) (bs : List UInt8) (a : Option Addr) (cap : Nat) (w : World) (hw : Wr w B bs) :
    Calls Try.prog 28 #[.pointer (some ⟨B, 0, none⟩), .slice a 0 cap] w fun e w' => e = .returned (.pointer (some ⟨B, 0, none⟩)) ∧ Wr w' B bs ∧ w' = w := by
  go_enter Try.func28, Try.ntmps28
  go_wp2_with (go_at_call 47; refine (lay47_48_none B bs a cap _ _ hw).mono ?_; rintro e w2 ⟨rfl, h2, rfl⟩)
  go_ret
  exact ⟨rfl, h2, rfl⟩
set_option maxRecDepth 100000 in
theorem wints_nil (v : Value) (w : World) :
    Calls Try.prog 28 #[.pointer none, v] w fun e w' => e = .returned (.pointer none) ∧ w' = w := by
  go_enter Try.func28, Try.ntmps28
  go_wp2_with (go_at_call 47; refine (lay47_48_nil _ _ _).mono ?_; rintro e w2 ⟨rfl, rfl⟩)
  go_ret
  exact ⟨rfl, rfl⟩
set_option maxHeartbeats 400000 in
set_option maxRecDepth 100000 in
theorem lay49_50 (B : Nat) (bs : List UInt8) (vs : List Bool) (hv : ∀ x ∈ vs, True) (L o cap : Nat) (w : World) (hw : Wr w B bs) (hL : Keep w L B)
    (hc : ∀ (i : Nat) (x : Bool), vs[i]? = some x → w.cell? ⟨L, o + i, none⟩ = some (.bool x)) (hl : bs.length + (vs.flatMap flagL).length + 10 ≤ 140737488355328) (hlen : vs.length < 9223372036854775807) :
    Calls Try.prog 49 #[.pointer (some ⟨B, 0, none⟩), .func (.func 50) #[.pointer (some ⟨B, 0, none⟩)] #[], .slice (some ⟨L, o, none⟩) vs.length cap] w fun e w' =>
      e = .returned (.pointer (some ⟨B, 0, none⟩)) ∧ Wr w' B (bs ++ vs.flatMap flagL) ∧ WUpd B w w' := by
  have hel : Hid (∀ (x : Bool) (bs' : List UInt8) (W : World), True → Wr W B bs' → bs'.length + (flagL x).length + 10 ≤ 140737488355328 → Calls Try.prog 50 #[.pointer (some ⟨B, 0, none⟩), (.bool x)] W fun e w' => e = .returned (.tuple #[]) ∧ Wr w' B (bs' ++ flagL x) ∧ WUpd B W w') :=
    fun x bs' W hx hW hb => wflag_any B bs' x (by omega) W hW
  have hv : Hid (∀ x ∈ vs, True) := hv
  have hc : Hid (∀ (i : Nat) (x : Bool), vs[i]? = some x → w.cell? ⟨L, o + i, none⟩ = some (.bool x)) := hc
  have hl : Hid (bs.length + (vs.flatMap flagL).length + 10 ≤ 140737488355328) := hl
  obtain ⟨n, hn⟩ : ∃ n, vs.length = n := ⟨_, rfl⟩
  have HN : Hid (vs.length = n) := hn
  rw [hn] at hlen ⊢
  clear hn
  go_enter Try.func49, Try.ntmps49
  go_wp2_with fail
  go_loopw [13] (fun c wr => ∃ k : Nat, k ≤ n ∧ c = .int .i64 (k : Int) ∧ Wr wr B (bs ++ (vs.take k).flatMap flagL) ∧ WUpd B w wr) (fun c _ => n - (intOf c).toNat)
  case atStart => exact ⟨0, by omega, rfl, by simpa using hw, WUpd.refl B w⟩
  case round =>
    obtain ⟨k, hk, rfl, hW, hU⟩ := hrel
    by_cases hlt : k < n
    · obtain ⟨x, hx⟩ : ∃ x, vs[k]? = some x := ⟨vs[k]'(by have := HN.out; omega), List.getElem?_eq_getElem _⟩
      have ck : wr.cell? ⟨L, o + k, none⟩ = some (.bool x) := by rw [hL.cell hU]; exact hc.out k x hx
      have hxc := hv.out x (List.mem_of_getElem? hx)
      have hcall : Hid (Calls Try.prog 50 #[.pointer (some ⟨B, 0, none⟩), (.bool x)] wr fun e w' => e = .returned (.tuple #[]) ∧ Wr w' B (bs ++ (vs.take (k + 1)).flatMap flagL) ∧ WUpd B wr w') := by
        have := hel.out x _ wr hxc hW (by
          have h1 := take_flat_len flagL vs (k + 1)
          rw [take_flat flagL vs k x hx] at h1
          have h2 := hl.out
          simp only [List.length_append] at h1 ⊢
          omega)
        rw [List.append_assoc, ← take_flat flagL vs k x hx] at this
        exact this
      clear hW
      have hX : Hid (vs[k]? = some x) := hx
      clear hx
      go_wp2_with (go_at_call 50; refine hcall.out.mono ?_; rintro e w2 ⟨rfl, h2, u2⟩)
      exact ⟨⟨k + 1, by omega, rfl, h2, hU.trans u2⟩, by simp; omega⟩
    · have htk : vs.take k = vs := List.take_of_length_le (by have := HN.out; omega)
      rw [htk] at hW
      clear htk
      go_wp2
      go_ret
      exact ⟨rfl, hW, hU⟩
set_option maxRecDepth 100000 in
theorem lay49_50_none (B : Nat) (bs : List UInt8) (a : Option Addr) (cap : Nat) (f : Value) (w : World) (hw : Wr w B bs) :
    Calls Try.prog 49 #[.pointer (some ⟨B, 0, none⟩), f, .slice a 0 cap] w fun e w' => e = .returned (.pointer (some ⟨B, 0, none⟩)) ∧ Wr w' B bs ∧ w' = w := by
  go_enter Try.func49, Try.ntmps49
  go_wp2
  refine wp_loop_rounds 1 ?_
  rw [rounds_succ]
  go_wp2
  go_ret
  exact ⟨rfl, hw, rfl⟩
set_option maxRecDepth 100000 in
theorem lay49_50_nil (f v : Value) (w : World) :
    Calls Try.prog 49 #[.pointer none, f, v] w fun e w' => e = .returned (.pointer none) ∧ w' = w := by
  go_enter Try.func49, Try.ntmps49
  go_wp2
  go_ret
  exact ⟨rfl, rfl⟩
set_option maxRecDepth 100000 in
theorem wflags_any (B : Nat) (bs : List UInt8) (vs : List Bool) (hv : ∀ x ∈ vs, True) (L o cap : Nat) (w : World) (hw : Wr w B bs) (hL : Keep w L B)
    (hc : ∀ (i : Nat) (x : Bool), vs[i]? = some x → w.cell? ⟨L, o + i, none⟩ = some (.bool x)) (hl : bs.length + (vs.flatMap flagL).length + 10 ≤ 140737488355328) (hlen : vs.length < 9223372036854775807) :
    Calls Try.prog 29 #[.pointer (some ⟨B, 0, none⟩), .slice (some ⟨L, o, none⟩) vs.length cap] w fun e w' =>
      e = .returned (.pointer (some ⟨B, 0, none⟩)) ∧ Wr w' B (bs ++ vs.flatMap flagL) ∧ WUpd B w w' := by
  have hcall : Hid (Calls Try.prog 49 #[.pointer (some ⟨B, 0, none⟩), .func (.func 50) #[.pointer (some ⟨B, 0, none⟩)] #[], .slice (some ⟨L, o, none⟩) vs.length cap] w fun e w' =>
      e = .returned (.pointer (some ⟨B, 0, none⟩)) ∧ Wr w' B (bs ++ vs.flatMap flagL) ∧ WUpd B w w') := lay49_50 B bs vs hv L o cap w hw hL hc hl hlen
  clear hc hv hl
  go_enter Try.func29, Try.ntmps29
  go_wp2_with (go_at_call 49; refine hcall.out.mono ?_; rintro e w2 ⟨rfl, h2, u2⟩)
  go_ret
  exact ⟨rfl, h2, u2⟩
set_option maxRecDepth 100000 in
theorem wflags_none (B : Nat) (bs : List UInt8) (a : Option Addr) (cap : Nat) (w : World) (hw : Wr w B bs) :
    Calls Try.prog 29 #[.pointer (some ⟨B, 0, none⟩), .slice a 0 cap] w fun e w' => e = .returned (.pointer (some ⟨B, 0, none⟩)) ∧ Wr w' B bs ∧ w' = w := by
  go_enter Try.func29, Try.ntmps29
  go_wp2_with (go_at_call 49; refine (lay49_50_none B bs a cap _ _ hw).mono ?_; rintro e w2 ⟨rfl, h2, rfl⟩)
  go_ret
  exact ⟨rfl, h2, rfl⟩
set_option maxRecDepth 100000 in
theorem wflags_nil (v : Value) (w : World) :
    Calls Try.prog 29 #[.pointer none, v] w fun e w' => e = .returned (.pointer none) ∧ w' = w := by
  go_enter Try.func29, Try.ntmps29
  go_wp2_with (go_at_call 49; refine (lay49_50_nil _ _ _).mono ?_; rintro e w2 ⟨rfl, rfl⟩)
  go_ret
  exact ⟨rfl, rfl⟩
set_option maxHeartbeats 400000 in
set_option maxRecDepth 100000 in
theorem lay35_36 (B : Nat) (bs : List UInt8) (vs : List ByteArray) (hv : ∀ x ∈ vs, True) (L o cap : Nat) (w : World) (hw : Wr w B bs) (hL : Keep w L B)
    (hc : ∀ (i : Nat) (x : ByteArray), vs[i]? = some x → w.cell? ⟨L, o + i, none⟩ = some (.string x)) (hl : bs.length + (vs.flatMap textL).length + 10 ≤ 140737488355328) (hlen : vs.length < 9223372036854775807) :
    Calls Try.prog 35 #[.pointer (some ⟨B, 0, none⟩), .func (.func 36) #[.pointer (some ⟨B, 0, none⟩)] #[], .slice (some ⟨L, o, none⟩) vs.length cap] w fun e w' =>
      e = .returned (.pointer (some ⟨B, 0, none⟩)) ∧ Wr w' B (bs ++ vs.flatMap textL) ∧ WUpd B w w' := by
  have hel : Hid (∀ (x : ByteArray) (bs' : List UInt8) (W : World), True → Wr W B bs' → bs'.length + (textL x).length + 10 ≤ 140737488355328 → Calls Try.prog 36 #[.pointer (some ⟨B, 0, none⟩), (.string x)] W fun e w' => e = .returned (.tuple #[]) ∧ Wr w' B (bs' ++ textL x) ∧ WUpd B W w') :=
    fun x bs' W hx hW hb => wtext_any B bs' x (by have : x.size ≤ (textL x).length := (by unfold textL; simp); omega) W hW
  have hv : Hid (∀ x ∈ vs, True) := hv
  have hc : Hid (∀ (i : Nat) (x : ByteArray), vs[i]? = some x → w.cell? ⟨L, o + i, none⟩ = some (.string x)) := hc
  have hl : Hid (bs.length + (vs.flatMap textL).length + 10 ≤ 140737488355328) := hl
  obtain ⟨n, hn⟩ : ∃ n, vs.length = n := ⟨_, rfl⟩
  have HN : Hid (vs.length = n) := hn
  rw [hn] at hlen ⊢
  clear hn
  go_enter Try.func35, Try.ntmps35
  go_wp2_with fail
  go_loopw [13] (fun c wr => ∃ k : Nat, k ≤ n ∧ c = .int .i64 (k : Int) ∧ Wr wr B (bs ++ (vs.take k).flatMap textL) ∧ WUpd B w wr) (fun c _ => n - (intOf c).toNat)
  case atStart => exact ⟨0, by omega, rfl, by simpa using hw, WUpd.refl B w⟩
  case round =>
    obtain ⟨k, hk, rfl, hW, hU⟩ := hrel
    by_cases hlt : k < n
    · obtain ⟨x, hx⟩ : ∃ x, vs[k]? = some x := ⟨vs[k]'(by have := HN.out; omega), List.getElem?_eq_getElem _⟩
      have ck : wr.cell? ⟨L, o + k, none⟩ = some (.string x) := by rw [hL.cell hU]; exact hc.out k x hx
      have hxc := hv.out x (List.mem_of_getElem? hx)
      have hcall : Hid (Calls Try.prog 36 #[.pointer (some ⟨B, 0, none⟩), (.string x)] wr fun e w' => e = .returned (.tuple #[]) ∧ Wr w' B (bs ++ (vs.take (k + 1)).flatMap textL) ∧ WUpd B wr w') := by
        have := hel.out x _ wr hxc hW (by
          have h1 := take_flat_len textL vs (k + 1)
          rw [take_flat textL vs k x hx] at h1
          have h2 := hl.out
          simp only [List.length_append] at h1 ⊢
          omega)
        rw [List.append_assoc, ← take_flat textL vs k x hx] at this
        exact this
      clear hW
      have hX : Hid (vs[k]? = some x) := hx
      clear hx
      go_wp2_with (go_at_call 36; refine hcall.out.mono ?_; rintro e w2 ⟨rfl, h2, u2⟩)
      exact ⟨⟨k + 1, by omega, rfl, h2, hU.trans u2⟩, by simp; omega⟩
    · have htk : vs.take k = vs := List.take_of_length_le (by have := HN.out; omega)
      rw [htk] at hW
      clear htk
      go_wp2
      go_ret
      exact ⟨rfl, hW, hU⟩
set_option maxRecDepth 100000 in
theorem lay35_36_none (B : Nat) (bs : List UInt8) (a : Option Addr) (cap : Nat) (f : Value) (w : World) (hw : Wr w B bs) :
    Calls Try.prog 35 #[.pointer (some ⟨B, 0, none⟩), f, .slice a 0 cap] w fun e w' => e = .returned (.pointer (some ⟨B, 0, none⟩)) ∧ Wr w' B bs ∧ w' = w := by
  go_enter Try.func35, Try.ntmps35
  go_wp2
  refine wp_loop_rounds 1 ?_
  rw [rounds_succ]
  go_wp2
  go_ret
  exact ⟨rfl, hw, rfl⟩
set_option maxRecDepth 100000 in
theorem lay35_36_nil (f v : Value) (w : World) :
    Calls Try.prog 35 #[.pointer none, f, v] w fun e w' => e = .returned (.pointer none) ∧ w' = w := by
  go_enter Try.func35, Try.ntmps35
  go_wp2
  go_ret
  exact ⟨rfl, rfl⟩
set_option maxRecDepth 100000 in
theorem wtexts_any (B : Nat) (bs : List UInt8) (vs : List ByteArray) (hv : ∀ x ∈ vs, True) (L o cap : Nat) (w : World) (hw : Wr w B bs) (hL : Keep w L B)
    (hc : ∀ (i : Nat) (x : ByteArray), vs[i]? = some x → w.cell? ⟨L, o + i, none⟩ = some (.string x)) (hl : bs.length + (vs.flatMap textL).length + 10 ≤ 140737488355328) (hlen : vs.length < 9223372036854775807) :
    Calls Try.prog 13 #[.pointer (some ⟨B, 0, none⟩), .slice (some ⟨L, o, none⟩) vs.length cap] w fun e w' =>
      e = .returned (.pointer (some ⟨B, 0, none⟩)) ∧ Wr w' B (bs ++ vs.flatMap textL) ∧ WUpd B w w' := by
  have hcall : Hid (Calls Try.prog 35 #[.pointer (some ⟨B, 0, none⟩), .func (.func 36) #[.pointer (some ⟨B, 0, none⟩)] #[], .slice (some ⟨L, o, none⟩) vs.length cap] w fun e w' =>
      e = .returned (.pointer (some ⟨B, 0, none⟩)) ∧ Wr w' B (bs ++ vs.flatMap textL) ∧ WUpd B w w') := lay35_36 B bs vs hv L o cap w hw hL hc hl hlen
  clear hc hv hl
  go_enter Try.func13, Try.ntmps13
  go_wp2_with (go_at_call 35; refine hcall.out.mono ?_; rintro e w2 ⟨rfl, h2, u2⟩)
  go_ret
  exact ⟨rfl, h2, u2⟩
set_option maxRecDepth 100000 in
theorem wtexts_none (B : Nat) (bs : List UInt8) (a : Option Addr) (cap : Nat) (w : World) (hw : Wr w B bs) :
    Calls Try.prog 13 #[.pointer (some ⟨B, 0, none⟩), .slice a 0 cap] w fun e w' => e = .returned (.pointer (some ⟨B, 0, none⟩)) ∧ Wr w' B bs ∧ w' = w := by
  go_enter Try.func13, Try.ntmps13
  go_wp2_with (go_at_call 35; refine (lay35_36_none B bs a cap _ _ hw).mono ?_; rintro e w2 ⟨rfl, h2, rfl⟩)
  go_ret
  exact ⟨rfl, h2, rfl⟩
set_option maxRecDepth 100000 in
theorem wtexts_nil (v : Value) (w : World) :
    Calls Try.prog 13 #[.pointer none, v] w fun e w' => e = .returned (.pointer none) ∧ w' = w := by
  go_enter Try.func13, Try.ntmps13
  go_wp2_with (go_at_call 35; refine (lay35_36_nil _ _ _).mono ?_; rintro e w2 ⟨rfl, rfl⟩)
  go_ret
  exact ⟨rfl, rfl⟩
set_option maxHeartbeats 400000 in
set_option maxRecDepth 100000 in
theorem lay35_51 (B : Nat) (bs : List UInt8) (vs : List ByteArray) (hv : ∀ x ∈ vs, True) (L o cap : Nat) (w : World) (hw : Wr w B bs) (hL : Keep w L B)
    (hc : ∀ (i : Nat) (x : ByteArray), vs[i]? = some x → w.cell? ⟨L, o + i, none⟩ = some (.string x)) (hl : bs.length + (vs.flatMap rawL).length + 10 ≤ 140737488355328) (hlen : vs.length < 9223372036854775807) :
    Calls Try.prog 35 #[.pointer (some ⟨B, 0, none⟩), .func (.func 51) #[.pointer (some ⟨B, 0, none⟩)] #[], .slice (some ⟨L, o, none⟩) vs.length cap] w fun e w' =>
      e = .returned (.pointer (some ⟨B, 0, none⟩)) ∧ Wr w' B (bs ++ vs.flatMap rawL) ∧ WUpd B w w' := by
  have hel : Hid (∀ (x : ByteArray) (bs' : List UInt8) (W : World), True → Wr W B bs' → bs'.length + (rawL x).length + 10 ≤ 140737488355328 → Calls Try.prog 51 #[.pointer (some ⟨B, 0, none⟩), (.string x)] W fun e w' => e = .returned (.tuple #[]) ∧ Wr w' B (bs' ++ rawL x) ∧ WUpd B W w') :=
    fun x bs' W hx hW hb => wraw_any B bs' x (by have : (rawL x).length = x.size := rfl; omega) W hW
  have hv : Hid (∀ x ∈ vs, True) := hv
  have hc : Hid (∀ (i : Nat) (x : ByteArray), vs[i]? = some x → w.cell? ⟨L, o + i, none⟩ = some (.string x)) := hc
  have hl : Hid (bs.length + (vs.flatMap rawL).length + 10 ≤ 140737488355328) := hl
  obtain ⟨n, hn⟩ : ∃ n, vs.length = n := ⟨_, rfl⟩
  have HN : Hid (vs.length = n) := hn
  rw [hn] at hlen ⊢
  clear hn
  go_enter Try.func35, Try.ntmps35
  go_wp2_with fail
  go_loopw [13] (fun c wr => ∃ k : Nat, k ≤ n ∧ c = .int .i64 (k : Int) ∧ Wr wr B (bs ++ (vs.take k).flatMap rawL) ∧ WUpd B w wr) (fun c _ => n - (intOf c).toNat)
  case atStart => exact ⟨0, by omega, rfl, by simpa using hw, WUpd.refl B w⟩
  case round =>
    obtain ⟨k, hk, rfl, hW, hU⟩ := hrel
    by_cases hlt : k < n
    · obtain ⟨x, hx⟩ : ∃ x, vs[k]? = some x := ⟨vs[k]'(by have := HN.out; omega), List.getElem?_eq_getElem _⟩
      have ck : wr.cell? ⟨L, o + k, none⟩ = some (.string x) := by rw [hL.cell hU]; exact hc.out k x hx
      have hxc := hv.out x (List.mem_of_getElem? hx)
      have hcall : Hid (Calls Try.prog 51 #[.pointer (some ⟨B, 0, none⟩), (.string x)] wr fun e w' => e = .returned (.tuple #[]) ∧ Wr w' B (bs ++ (vs.take (k + 1)).flatMap rawL) ∧ WUpd B wr w') := by
        have := hel.out x _ wr hxc hW (by
          have h1 := take_flat_len rawL vs (k + 1)
          rw [take_flat rawL vs k x hx] at h1
          have h2 := hl.out
          simp only [List.length_append] at h1 ⊢
          omega)
        rw [List.append_assoc, ← take_flat rawL vs k x hx] at this
        exact this
      clear hW
      have hX : Hid (vs[k]? = some x) := hx
      clear hx
      go_wp2_with (go_at_call 51; refine hcall.out.mono ?_; rintro e w2 ⟨rfl, h2, u2⟩)
      exact ⟨⟨k + 1, by omega, rfl, h2, hU.trans u2⟩, by simp; omega⟩
    · have htk : vs.take k = vs := List.take_of_length_le (by have := HN.out; omega)
      rw [htk] at hW
      clear htk
      go_wp2
      go_ret
      exact ⟨rfl, hW, hU⟩
set_option maxRecDepth 100000 in
theorem lay35_51_none (B : Nat) (bs : List UInt8) (a : Option Addr) (cap : Nat) (f : Value) (w : World) (hw : Wr w B bs) :
    Calls Try.prog 35 #[.pointer (some ⟨B, 0, none⟩), f, .slice a 0 cap] w fun e w' => e = .returned (.pointer (some ⟨B, 0, none⟩)) ∧ Wr w' B bs ∧ w' = w := by
  go_enter Try.func35, Try.ntmps35
  go_wp2
  refine wp_loop_rounds 1 ?_
  rw [rounds_succ]
  go_wp2
  go_ret
  exact ⟨rfl, hw, rfl⟩
set_option maxRecDepth 100000 in
theorem lay35_51_nil (f v : Value) (w : World) :
    Calls Try.prog 35 #[.pointer none, f, v] w fun e w' => e = .returned (.pointer none) ∧ w' = w := by
  go_enter Try.func35, Try.ntmps35
  go_wp2
  go_ret
  exact ⟨rfl, rfl⟩
set_option maxRecDepth 100000 in
theorem wraws_any (B : Nat) (bs : List UInt8) (vs : List ByteArray) (hv : ∀ x ∈ vs, True) (L o cap : Nat) (w : World) (hw : Wr w B bs) (hL : Keep w L B)
    (hc : ∀ (i : Nat) (x : ByteArray), vs[i]? = some x → w.cell? ⟨L, o + i, none⟩ = some (.string x)) (hl : bs.length + (vs.flatMap rawL).length + 10 ≤ 140737488355328) (hlen : vs.length < 9223372036854775807) :
    Calls Try.prog 30 #[.pointer (some ⟨B, 0, none⟩), .slice (some ⟨L, o, none⟩) vs.length cap] w fun e w' =>
      e = .returned (.pointer (some ⟨B, 0, none⟩)) ∧ Wr w' B (bs ++ vs.flatMap rawL) ∧ WUpd B w w' := by
  have hcall : Hid (Calls Try.prog 35 #[.pointer (some ⟨B, 0, none⟩), .func (.func 51) #[.pointer (some ⟨B, 0, none⟩)] #[], .slice (some ⟨L, o, none⟩) vs.length cap] w fun e w' =>
      e = .returned (.pointer (some ⟨B, 0, none⟩)) ∧ Wr w' B (bs ++ vs.flatMap rawL) ∧ WUpd B w w') := lay35_51 B bs vs hv L o cap w hw hL hc hl hlen
  clear hc hv hl
  go_enter Try.func30, Try.ntmps30
  go_wp2_with (go_at_call 35; refine hcall.out.mono ?_; rintro e w2 ⟨rfl, h2, u2⟩)
  go_ret
  exact ⟨rfl, h2, u2⟩
set_option maxRecDepth 100000 in
theorem wraws_none (B : Nat) (bs : List UInt8) (a : Option Addr) (cap : Nat) (w : World) (hw : Wr w B bs) :
    Calls Try.prog 30 #[.pointer (some ⟨B, 0, none⟩), .slice a 0 cap] w fun e w' => e = .returned (.pointer (some ⟨B, 0, none⟩)) ∧ Wr w' B bs ∧ w' = w := by
  go_enter Try.func30, Try.ntmps30
  go_wp2_with (go_at_call 35; refine (lay35_51_none B bs a cap _ _ hw).mono ?_; rintro e w2 ⟨rfl, h2, rfl⟩)
  go_ret
  exact ⟨rfl, h2, rfl⟩
set_option maxRecDepth 100000 in
theorem wraws_nil (v : Value) (w : World) :
    Calls Try.prog 30 #[.pointer none, v] w fun e w' => e = .returned (.pointer none) ∧ w' = w := by
  go_enter Try.func30, Try.ntmps30
  go_wp2_with (go_at_call 35; refine (lay35_51_nil _ _ _).mono ?_; rintro e w2 ⟨rfl, rfl⟩)
  go_ret
  exact ⟨rfl, rfl⟩
end Go.Proofs.Ytlbdlipdhhpgmaa
