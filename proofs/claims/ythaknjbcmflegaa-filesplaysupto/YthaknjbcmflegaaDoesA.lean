/- One call of both disks, by its kind. -/
import Derived.Test.YthaknjbcmflegaaDoes
namespace Go.Proofs.Ythaknjbcmflegaa
open Go.RowKit Go.Maps Go.WideMaps

/-- Between the two calls. -/
structure Mid (w W : World) (N d r b : Nat) (S S1 : Dk) (box : List Value) : Prop where
  disk : DiskAt W N d S1
  ref : RefAt W N r S
  low : Below N w W
  box : Holds W b box 32
theorem mid_of {w w' : World} {N d r : Nat} {S S1 : Dk} {box : List Value} (hP : Pair w N d r S) (h1 : DiskAt w' N d S1) (h2 : DUpd N (w.alloc (.cells box.toArray 32)) w') : Mid w w' N d r w.heap.size S S1 box :=
  ⟨h1, (hP.ref.alloc _).dupd h2, ((Below.refl _ w).alloc hP.le _).trans (h2.below (by have := hP.le; simp; omega)), (holds_new w box 32).dupd h2 (by decide) (by decide) (by decide)⟩
theorem mid_start {w : World} {N d r : Nat} {S : Dk} {box : List Value} (hP : Pair w N d r S) : Mid w (w.alloc (.cells box.toArray 32)) N d r w.heap.size S S box := mid_of hP (hP.disk.alloc _) (DUpd.refl _ _)
theorem Mid.keep {w W W' : World} {N d r b : Nat} {S S1 : Dk} {box : List Value} (h : Mid w W N d r b S S1 box) (hb : Below W.heap.size W W') : Mid w W' N d r b S S1 box :=
  ⟨h.disk.below hb, h.ref.below hb, h.low.trans (hb.mono (by have := h.ref.lt; omega)), by have := h.box; unfold Holds at this ⊢; rw [hb.block b h.box.lt]; exact this⟩
theorem left_of {w W w' : World} {N d r b : Nat} {S S1 : Dk} {box : List Value} (hM : Mid w W N d r b S S1 box) (hl : S1.fs.length ≤ S.fs.length + 1) (h1 : RefAt w' N r S1) (h2 : RUpd N W w') : Left w w' N d r S :=
  ⟨⟨S1, ⟨hM.disk.rupd h2, h1⟩, hl⟩, hM.low.trans (h2.below (by have := hM.ref.lt; omega))⟩
theorem Mid.names {w W : World} {N d r b : Nat} {S S1 : Dk} {box : List Value} (h : Mid w W N d r b S S1 box) {a : Option Addr} {ss : List ByteArray} (hl : LowStrs w N a ss) : LowStrs W N a ss := hl.below h.low

set_option maxHeartbeats 3200000 in
set_option maxRecDepth 100000 in
theorem does_6 (N d r : Nat) (S : Dk) (o : Cl) (ho : o.Ok) (na pa ka : Option Addr) (nc pc kc : Nat) (w : World) (hP : Pair w N d r S) (hC : ClAt w N o na pa ka kc) (t : Int) (ht : Int.tmod o.kind 9 = t) (htk : t = 6 ∨ t = 6 - 9) :
    Calls Try.prog 7 #[.pointer (some ⟨d, 0, none⟩), .pointer (some ⟨r, 0, none⟩), .agg #[.int .i64 o.kind, .int .i64 o.num, .slice na o.names.length nc, .slice pa o.parts.length pc, .slice ka o.picks.length kc]] w fun e w' => e = .returned (.bool true) ∧ Left w w' N d r S := by
  have hat0 : Hid (Calls Try.prog 25 #[.slice na o.names.length nc, .int .i64 0] (w.alloc (.cells #[.int .i64 o.kind, .int .i64 o.num, .slice na o.names.length nc, .slice pa o.parts.length pc, .slice ka o.picks.length kc] 32)) fun e w' => e = .returned (.string (atS o.names 0)) ∧ w' = (w.alloc (.cells #[.int .i64 o.kind, .int .i64 o.num, .slice na o.names.length nc, .slice pa o.parts.length pc, .slice ka o.picks.length kc] 32))) := at_any N o.names 0 (by decide) na nc _ ((mid_start (d := d) hP).names hC.names)
  have hat1 : Hid (Calls Try.prog 25 #[.slice na o.names.length nc, .int .i64 1] (w.alloc (.cells #[.int .i64 o.kind, .int .i64 o.num, .slice na o.names.length nc, .slice pa o.parts.length pc, .slice ka o.picks.length kc] 32)) fun e w' => e = .returned (.string (atS o.names 1)) ∧ w' = (w.alloc (.cells #[.int .i64 o.kind, .int .i64 o.num, .slice na o.names.length nc, .slice pa o.parts.length pc, .slice ka o.picks.length kc] 32))) := at_any N o.names 1 (by decide) na nc _ ((mid_start (d := d) hP).names hC.names)
  have hs0 : (atS o.names 0).size < 9223372036854775808 := by
    unfold atS
    split
    · rename_i s hs; exact ho.names s (List.mem_of_getElem? hs)
    · decide
  have hs1 : (atS o.names 1).size < 9223372036854775808 := by
    unfold atS
    split
    · rename_i s hs; exact ho.names s (List.mem_of_getElem? hs)
    · decide
  have k1 : Hid (Calls Try.prog 29 #[.pointer (some ⟨d, 0, none⟩), .int .i64 o.num] (w.alloc (.cells #[.int .i64 o.kind, .int .i64 o.num, .slice na o.names.length nc, .slice pa o.parts.length pc, .slice ka o.picks.length kc] 32)) fun e w' => e = .returned (.tuple #[]) ∧ Mid w w' N d r w.heap.size S { S with armed := decide (0 ≤ o.num), ahead := o.num } [.int .i64 o.kind, .int .i64 o.num, .slice na o.names.length nc, .slice pa o.parts.length pc, .slice ka o.picks.length kc]) :=
    (arm_some N d S o.num ho.num _ (hP.disk.alloc _)).mono fun e w' ⟨h1, h2, h3⟩ => ⟨h1, mid_of hP h2 h3⟩
  have k2 : Hid (∀ W, Mid w W N d r w.heap.size S { S with armed := decide (0 ≤ o.num), ahead := o.num } [.int .i64 o.kind, .int .i64 o.num, .slice na o.names.length nc, .slice pa o.parts.length pc, .slice ka o.picks.length kc] → Calls Try.prog 30 #[.pointer (some ⟨r, 0, none⟩), .int .i64 o.num] W fun e w' => e = .returned (.tuple #[]) ∧ Left w w' N d r S) := fun W hW =>
    (rarm_some N r S o.num ho.num W hW.ref).mono fun e w' ⟨h1, h2, h3⟩ => ⟨h1, left_of hW (Nat.le_succ _) h2 h3⟩
  generalize ({ S with armed := decide (0 ≤ o.num), ahead := o.num } : Dk) = S1 at *
  have b0 : (w.alloc (.cells #[.int .i64 o.kind, .int .i64 o.num, .slice na o.names.length nc, .slice pa o.parts.length pc, .slice ka o.picks.length kc] 32)).cell? ⟨w.heap.size, 0, none⟩ = some (.int .i64 o.kind) := (holds_new w [.int .i64 o.kind, .int .i64 o.num, .slice na o.names.length nc, .slice pa o.parts.length pc, .slice ka o.picks.length kc] 32).at 0 _ rfl
  have b1 : (w.alloc (.cells #[.int .i64 o.kind, .int .i64 o.num, .slice na o.names.length nc, .slice pa o.parts.length pc, .slice ka o.picks.length kc] 32)).cell? ⟨w.heap.size, 1, none⟩ = some (.int .i64 o.num) := (holds_new w [.int .i64 o.kind, .int .i64 o.num, .slice na o.names.length nc, .slice pa o.parts.length pc, .slice ka o.picks.length kc] 32).at 1 _ rfl
  have b2 : (w.alloc (.cells #[.int .i64 o.kind, .int .i64 o.num, .slice na o.names.length nc, .slice pa o.parts.length pc, .slice ka o.picks.length kc] 32)).cell? ⟨w.heap.size, 2, none⟩ = some (.slice na o.names.length nc) := (holds_new w [.int .i64 o.kind, .int .i64 o.num, .slice na o.names.length nc, .slice pa o.parts.length pc, .slice ka o.picks.length kc] 32).at 2 _ rfl
  have b3 : (w.alloc (.cells #[.int .i64 o.kind, .int .i64 o.num, .slice na o.names.length nc, .slice pa o.parts.length pc, .slice ka o.picks.length kc] 32)).cell? ⟨w.heap.size, 3, none⟩ = some (.slice pa o.parts.length pc) := (holds_new w [.int .i64 o.kind, .int .i64 o.num, .slice na o.names.length nc, .slice pa o.parts.length pc, .slice ka o.picks.length kc] 32).at 3 _ rfl
  have b4 : (w.alloc (.cells #[.int .i64 o.kind, .int .i64 o.num, .slice na o.names.length nc, .slice pa o.parts.length pc, .slice ka o.picks.length kc] 32)).cell? ⟨w.heap.size, 4, none⟩ = some (.slice ka o.picks.length kc) := (holds_new w [.int .i64 o.kind, .int .i64 o.num, .slice na o.names.length nc, .slice pa o.parts.length pc, .slice ka o.picks.length kc] 32).at 4 _ rfl
  clear ho hP hC
  generalize atS o.names 0 = A0 at *
  generalize atS o.names 1 = A1 at *
  rcases htk with rfl | rfl
  all_goals
    go_enter Try.func7, Try.ntmps7
    go_wp2_with (first
      | (go_at_call 30; refine (k2.out _ m3).mono ?_; rintro e w4 ⟨rfl, l4⟩)
      | (go_at_call 29; refine k1.out.mono ?_; rintro e w3 ⟨rfl, m3⟩; have y0 := m3.box.at 0 _ rfl; have y1 := m3.box.at 1 _ rfl)
      | (go_at_call_of 25 (Value.int IntKind.i64 1); refine hat1.out.mono ?_; rintro e w2 ⟨rfl, e2⟩; subst e2)
      | (go_at_call 25; refine hat0.out.mono ?_; rintro e w2 ⟨rfl, e2⟩; subst e2))
    go_ret
    exact ⟨rfl, l4⟩
end Go.Proofs.Ythaknjbcmflegaa
