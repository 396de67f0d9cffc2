/- The exported writings at one thing that lies in a new block; several numbers likewise. -/
import Derived.Test.YtlbdlipdhhpgmaaLay
namespace Go.Proofs.Ytlbdlipdhhpgmaa
open Go.RowKit

theorem new_cells (w : World) (N : Nat) (hN : w.heap.size = N) (cs : List Value) (t : TypeId) (i : Nat) : (w.alloc (.cells cs.toArray t)).cell? ⟨N, 0 + i, none⟩ = cs[i]? := by
  subst hN
  rw [Nat.zero_add]
  exact (holds_new w cs t).cell i
theorem wupd_new {B : Nat} {w w' : World} (o : Obj) (hB : B < w.heap.size) (h : WUpd B (w.alloc o) w') : WUpd B w w' :=
  (WUpd.ofBelow (by omega) ((Below.refl _ _).alloc (Nat.le_refl _) o)).trans h

theorem wnums_new (B : Nat) (bs : List UInt8) (xs : List Nat) (hx : ∀ x ∈ xs, x < 18446744073709551616) (w : World) (N : Nat) (hN : w.heap.size = N) (hw : Wr w B bs) (hl : bs.length + (xs.flatMap numL).length + 10 ≤ 140737488355328) (hlen : xs.length < 9223372036854775807) :
    Calls Try.prog 12 #[.pointer (some ⟨B, 0, none⟩), .slice (some ⟨N, 0, none⟩) xs.length xs.length] (w.alloc (.cells (xs.map (fun x : Nat => Value.int .u64 (x : Int))).toArray 31)) fun e w' => e = .returned (.pointer (some ⟨B, 0, none⟩)) ∧ Wr w' B (bs ++ xs.flatMap numL) ∧ WUpd B w w' := by
  have hB := hw.lt
  refine (wnums_any B bs xs hx N 0 xs.length _ (hw.alloc _) ?_ (fun i y hy => ?_) hl hlen).mono fun e w' ⟨h1, h2, h3⟩ => ⟨h1, h2, wupd_new _ hB h3⟩
  · subst hN
    exact keep_new w _ 31 (by decide) B hB
  · rw [new_cells w N hN, List.getElem?_map, hy]; rfl
theorem wnums_one (B : Nat) (bs : List UInt8) (x : Nat) (hx : x < 18446744073709551616) (w : World) (N : Nat) (hN : w.heap.size = N) (hw : Wr w B bs) (hl : bs.length + (numL x).length + 10 ≤ 140737488355328) :
    Calls Try.prog 12 #[.pointer (some ⟨B, 0, none⟩), .slice (some ⟨N, 0, none⟩) 1 1] (w.alloc (.cells #[(.int .u64 (x : Int))] 31)) fun e w' => e = .returned (.pointer (some ⟨B, 0, none⟩)) ∧ Wr w' B (bs ++ numL x) ∧ WUpd B w w' := by
  have h := wnums_new B bs [x] (fun y hy => by obtain rfl := List.mem_singleton.1 hy; exact hx) w N hN hw (by simpa using hl) (by simp)
  rw [List.flatMap_singleton] at h
  exact h
theorem wints_new (B : Nat) (bs : List UInt8) (xs : List Int) (hx : ∀ x ∈ xs, (-9223372036854775808 ≤ x ∧ x < 9223372036854775808)) (w : World) (N : Nat) (hN : w.heap.size = N) (hw : Wr w B bs) (hl : bs.length + (xs.flatMap (fun x => numL (zig x))).length + 10 ≤ 140737488355328) (hlen : xs.length < 9223372036854775807) :
    Calls Try.prog 28 #[.pointer (some ⟨B, 0, none⟩), .slice (some ⟨N, 0, none⟩) xs.length xs.length] (w.alloc (.cells (xs.map (fun x => Value.int .i64 x)).toArray 2)) fun e w' => e = .returned (.pointer (some ⟨B, 0, none⟩)) ∧ Wr w' B (bs ++ xs.flatMap (fun x => numL (zig x))) ∧ WUpd B w w' := by
  have hB := hw.lt
  refine (wints_any B bs xs hx N 0 xs.length _ (hw.alloc _) ?_ (fun i y hy => ?_) hl hlen).mono fun e w' ⟨h1, h2, h3⟩ => ⟨h1, h2, wupd_new _ hB h3⟩
  · subst hN
    exact keep_new w _ 2 (by decide) B hB
  · rw [new_cells w N hN, List.getElem?_map, hy]; rfl
theorem wints_one (B : Nat) (bs : List UInt8) (x : Int) (hx : (-9223372036854775808 ≤ x ∧ x < 9223372036854775808)) (w : World) (N : Nat) (hN : w.heap.size = N) (hw : Wr w B bs) (hl : bs.length + ((fun x => numL (zig x)) x).length + 10 ≤ 140737488355328) :
    Calls Try.prog 28 #[.pointer (some ⟨B, 0, none⟩), .slice (some ⟨N, 0, none⟩) 1 1] (w.alloc (.cells #[(.int .i64 x)] 2)) fun e w' => e = .returned (.pointer (some ⟨B, 0, none⟩)) ∧ Wr w' B (bs ++ (fun x => numL (zig x)) x) ∧ WUpd B w w' := by
  have h := wints_new B bs [x] (fun y hy => by obtain rfl := List.mem_singleton.1 hy; exact hx) w N hN hw (by simpa using hl) (by simp)
  rw [List.flatMap_singleton] at h
  exact h
theorem wflags_new (B : Nat) (bs : List UInt8) (xs : List Bool) (hx : ∀ x ∈ xs, True) (w : World) (N : Nat) (hN : w.heap.size = N) (hw : Wr w B bs) (hl : bs.length + (xs.flatMap flagL).length + 10 ≤ 140737488355328) (hlen : xs.length < 9223372036854775807) :
    Calls Try.prog 29 #[.pointer (some ⟨B, 0, none⟩), .slice (some ⟨N, 0, none⟩) xs.length xs.length] (w.alloc (.cells (xs.map (fun x => Value.bool x)).toArray 4)) fun e w' => e = .returned (.pointer (some ⟨B, 0, none⟩)) ∧ Wr w' B (bs ++ xs.flatMap flagL) ∧ WUpd B w w' := by
  have hB := hw.lt
  refine (wflags_any B bs xs hx N 0 xs.length _ (hw.alloc _) ?_ (fun i y hy => ?_) hl hlen).mono fun e w' ⟨h1, h2, h3⟩ => ⟨h1, h2, wupd_new _ hB h3⟩
  · subst hN
    exact keep_new w _ 4 (by decide) B hB
  · rw [new_cells w N hN, List.getElem?_map, hy]; rfl
theorem wflags_one (B : Nat) (bs : List UInt8) (x : Bool) (hx : True) (w : World) (N : Nat) (hN : w.heap.size = N) (hw : Wr w B bs) (hl : bs.length + (flagL x).length + 10 ≤ 140737488355328) :
    Calls Try.prog 29 #[.pointer (some ⟨B, 0, none⟩), .slice (some ⟨N, 0, none⟩) 1 1] (w.alloc (.cells #[(.bool x)] 4)) fun e w' => e = .returned (.pointer (some ⟨B, 0, none⟩)) ∧ Wr w' B (bs ++ flagL x) ∧ WUpd B w w' := by
  have h := wflags_new B bs [x] (fun y hy => by obtain rfl := List.mem_singleton.1 hy; exact hx) w N hN hw (by simpa using hl) (by simp)
  rw [List.flatMap_singleton] at h
  exact h
theorem wtexts_new (B : Nat) (bs : List UInt8) (xs : List ByteArray) (hx : ∀ x ∈ xs, True) (w : World) (N : Nat) (hN : w.heap.size = N) (hw : Wr w B bs) (hl : bs.length + (xs.flatMap textL).length + 10 ≤ 140737488355328) (hlen : xs.length < 9223372036854775807) :
    Calls Try.prog 13 #[.pointer (some ⟨B, 0, none⟩), .slice (some ⟨N, 0, none⟩) xs.length xs.length] (w.alloc (.cells (xs.map (fun x => Value.string x)).toArray 9)) fun e w' => e = .returned (.pointer (some ⟨B, 0, none⟩)) ∧ Wr w' B (bs ++ xs.flatMap textL) ∧ WUpd B w w' := by
  have hB := hw.lt
  refine (wtexts_any B bs xs hx N 0 xs.length _ (hw.alloc _) ?_ (fun i y hy => ?_) hl hlen).mono fun e w' ⟨h1, h2, h3⟩ => ⟨h1, h2, wupd_new _ hB h3⟩
  · subst hN
    exact keep_new w _ 9 (by decide) B hB
  · rw [new_cells w N hN, List.getElem?_map, hy]; rfl
theorem wtexts_one (B : Nat) (bs : List UInt8) (x : ByteArray) (hx : True) (w : World) (N : Nat) (hN : w.heap.size = N) (hw : Wr w B bs) (hl : bs.length + (textL x).length + 10 ≤ 140737488355328) :
    Calls Try.prog 13 #[.pointer (some ⟨B, 0, none⟩), .slice (some ⟨N, 0, none⟩) 1 1] (w.alloc (.cells #[(.string x)] 9)) fun e w' => e = .returned (.pointer (some ⟨B, 0, none⟩)) ∧ Wr w' B (bs ++ textL x) ∧ WUpd B w w' := by
  have h := wtexts_new B bs [x] (fun y hy => by obtain rfl := List.mem_singleton.1 hy; exact hx) w N hN hw (by simpa using hl) (by simp)
  rw [List.flatMap_singleton] at h
  exact h
theorem wraws_new (B : Nat) (bs : List UInt8) (xs : List ByteArray) (hx : ∀ x ∈ xs, True) (w : World) (N : Nat) (hN : w.heap.size = N) (hw : Wr w B bs) (hl : bs.length + (xs.flatMap rawL).length + 10 ≤ 140737488355328) (hlen : xs.length < 9223372036854775807) :
    Calls Try.prog 30 #[.pointer (some ⟨B, 0, none⟩), .slice (some ⟨N, 0, none⟩) xs.length xs.length] (w.alloc (.cells (xs.map (fun x => Value.string x)).toArray 9)) fun e w' => e = .returned (.pointer (some ⟨B, 0, none⟩)) ∧ Wr w' B (bs ++ xs.flatMap rawL) ∧ WUpd B w w' := by
  have hB := hw.lt
  refine (wraws_any B bs xs hx N 0 xs.length _ (hw.alloc _) ?_ (fun i y hy => ?_) hl hlen).mono fun e w' ⟨h1, h2, h3⟩ => ⟨h1, h2, wupd_new _ hB h3⟩
  · subst hN
    exact keep_new w _ 9 (by decide) B hB
  · rw [new_cells w N hN, List.getElem?_map, hy]; rfl
theorem wraws_one (B : Nat) (bs : List UInt8) (x : ByteArray) (hx : True) (w : World) (N : Nat) (hN : w.heap.size = N) (hw : Wr w B bs) (hl : bs.length + (rawL x).length + 10 ≤ 140737488355328) :
    Calls Try.prog 30 #[.pointer (some ⟨B, 0, none⟩), .slice (some ⟨N, 0, none⟩) 1 1] (w.alloc (.cells #[(.string x)] 9)) fun e w' => e = .returned (.pointer (some ⟨B, 0, none⟩)) ∧ Wr w' B (bs ++ rawL x) ∧ WUpd B w w' := by
  have h := wraws_new B bs [x] (fun y hy => by obtain rfl := List.mem_singleton.1 hy; exact hx) w N hN hw (by simpa using hl) (by simp)
  rw [List.flatMap_singleton] at h
  exact h
end Go.Proofs.Ytlbdlipdhhpgmaa
