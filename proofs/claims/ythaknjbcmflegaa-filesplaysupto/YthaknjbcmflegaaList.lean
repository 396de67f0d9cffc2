/- List: the names that begin so. -/
import Derived.Test.YthaknjbcmflegaaKeys
import Derived.Shelf.SlicesE.DeleteFunc
import Derived.Ground.SlgfProg
import Derived.Sort.OwnSorted
namespace Go.Proofs.Ythaknjbcmflegaa
open Go.RowKit Go.Maps Go.WideMaps Go.Shelf Go.Lib

def Try.del39_ren : Go.Shelf.Ren := ⟨fun | 10 => 39 | 6 => 60 | n => n, fun | 22 => 29 | 23 => 9 | 25 => 68 | 3 => 3 | 4 => 4 | 0 => 0 | n => n, fun | n => n⟩
theorem Try.del39 : Go.Proofs.SlLaysH.n10 Try.prog Try.del39_ren := {
  mixed := by kernel_rfl
  f6 := ⟨Try.f60.name, by decide, Try.func60.trans (congrArg some (by kernel_rfl))⟩
  f10 := ⟨Try.f39.name, by decide, Try.func39.trans (congrArg some (by kernel_rfl))⟩
  t0 := Try.underlying0
  a0 := Try.isAgg0
  z0 := Try.sizeOf0
  v0 := Try.zeroValue0
  t3 := Try.underlying3
  a3 := Try.isAgg3
  z3 := Try.sizeOf3
  v3 := Try.zeroValue3
  t4 := Try.underlying4
  a4 := Try.isAgg4
  z4 := Try.sizeOf4
  v4 := Try.zeroValue4
  t22 := Try.underlying29
  a22 := Try.isAgg29
  z22 := Try.sizeOf29
  v22 := Try.zeroValue29
  a23 := Try.isAgg9
  z23 := Try.sizeOf9
  t25 := Try.underlying68
  a25 := Try.isAgg68
  z25 := Try.sizeOf68
  v25 := Try.zeroValue68 }

/-- Does a text begin so? -/
def preS (p s : ByteArray) : Bool := decide (p.size ≤ s.size) && ((s.extract 0 p.size).toList == p.toList)
theorem hasPrefix_in (s p : ByteArray) (w : World) : Calls Try.prog 61 #[.string s, .string p] w fun e w' => e = .returned (.bool (preS p s)) ∧ w' = w := by
  by_cases h : (p.size : Int) ≤ (s.size : Int)
  · have hb : preS p s = ((s.extract 0 p.size).toList == p.toList) := by
      have : p.size ≤ s.size := by omega
      simp [preS, this]
    rw [hb]
    go_enter Try.func61, Try.ntmps61
    go_wp2
    go_ret
    exact ⟨rfl, rfl⟩
  · have hb : preS p s = false := by
      have : ¬ p.size ≤ s.size := by omega
      simp [preS, this]
    rw [hb]
    go_enter Try.func61, Try.ntmps61
    go_wp2
    go_ret
    exact ⟨rfl, rfl⟩
theorem hasPrefix_any (s p : ByteArray) (w : World) : Calls Try.prog 41 #[.string s, .string p] w fun e w' => e = .returned (.bool (preS p s)) ∧ w' = w := by
  go_enter Try.func41, Try.ntmps41
  go_wp2_with (go_at_call 61; refine (hasPrefix_in s p _).mono ?_; rintro e w2 ⟨rfl, rfl⟩)
  go_ret
  exact ⟨rfl, rfl⟩
theorem not_begins (s p : ByteArray) (bx : Nat) (w : World) (h : w.cell? ⟨bx, 0, none⟩ = some (.string p)) : Calls Try.prog 40 #[.string s, .pointer (some ⟨bx, 0, none⟩)] w fun e w' => e = .returned (.bool (!preS p s)) ∧ w' = w := by
  have hp := hasPrefix_any s p w
  generalize preS p s = q at *
  have HP : Hid (Calls Try.prog 41 #[.string s, .string p] w fun e w' => e = .returned (.bool q) ∧ w' = w) := hp
  clear hp
  go_enter Try.func40, Try.ntmps40
  go_wp2_with (go_at_call 41; refine HP.out.mono ?_; rintro e w2 ⟨rfl, rfl⟩)
  go_ret
  exact ⟨rfl, rfl⟩
theorem gives48 (x : List UInt8) (p : ByteArray) (bx : Nat) (W : World) (hc : W.cell? ⟨bx, 0, none⟩ = some (.string p)) : FnGives Try.prog 40 #[.pointer (some ⟨bx, 0, none⟩)] #[encStr x] (.bool (!preS p ⟨x.toArray⟩)) W := by
  show Calls Try.prog 40 #[encStr x, .pointer (some ⟨bx, 0, none⟩)] W _
  exact (not_begins ⟨x.toArray⟩ p bx W hc).mono fun e w' ⟨h1, h2⟩ => ⟨h1, 0, h2⟩
theorem index_nil (fn : Fn) (x y : Array Value) (w : World) : Calls Try.prog 60 #[.slice none 0 0, .func fn x y] w fun e w' => e = .returned (.int .i64 (-1)) ∧ w' = w := by
  go_enter Try.func60, Try.ntmps60
  go_wp2_with fail
  go_loopw [8] (fun c wr => c = .int .i64 0 ∧ wr = w) (fun c _ => 0)
  case atStart => exact ⟨rfl, rfl⟩
  case round =>
    obtain ⟨rfl, rfl⟩ := hrel
    go_wp2
    go_ret
    exact ⟨rfl, rfl⟩
theorem delete_nil (fn : Fn) (x y : Array Value) (w : World) : Calls Try.prog 39 #[.slice none 0 0, .func fn x y] w fun e w' => e = .returned (.slice none 0 0) ∧ w' = w := by
  go_enter Try.func39, Try.ntmps39
  go_wp2_with (go_at_call 60; refine (index_nil _ _ _ _).mono ?_; rintro e w2 ⟨rfl, rfl⟩)
  go_ret
  exact ⟨rfl, rfl⟩
/-- The names that begin so. -/
def listK (S : Dk) (p : ByteArray) : List (List UInt8) := (S.fs.map Prod.fst).filter fun k => preS p ⟨k.toArray⟩
/-- A list of names in memory. -/
def NamesIn (w : World) (a : Option Addr) (l : List (List UInt8)) : Prop := l = [] ∨ ∃ g, a = some ⟨g, 0, none⟩ ∧ ∀ (i : Nat) (x : List UInt8), l[i]? = some x → w.cell? ⟨g, i, none⟩ = some (.string ⟨x.toArray⟩)
set_option maxHeartbeats 1000000 in
/-- Names that are not wanted are struck, in a row of the call's own. -/
theorem delete_row (H n : Nat) (v : Value) (xs : List (List UInt8)) (hn : xs.length = n) (p : ByteArray) (bx : Nat) (w : World) (hr : w.ownsRow H 9 1 v n (xs.map encStr)) (hc : w.cell? ⟨bx, 0, none⟩ = some (.string p)) (hbx : bx < H) (hn2 : n ≤ 256) :
    Calls Try.prog 39 #[v, .func (.func 40) #[] #[.pointer (some ⟨bx, 0, none⟩)]] w fun e w' => ∃ a c, e = .returned (.slice a (xs.filter fun k => preS p ⟨k.toArray⟩).length c) ∧ NamesIn w' a (xs.filter fun k => preS p ⟨k.toArray⟩) ∧ Below H w w' := by
  rcases hr.2 with ⟨rfl, h0⟩ | ⟨g, cap, cur, rfl, hb, hg, h1, h2, h3, h4⟩
  · have hx : xs = [] := List.eq_nil_of_length_eq_zero (by omega)
    subst hx
    exact (delete_nil _ _ _ w).mono fun e w' ⟨e1, e2⟩ => ⟨none, 0, e1, .inl rfl, by rw [e2]; exact Below.refl _ _⟩
  · have hgl := (Array.getElem?_eq_some_iff.1 hg).1
    have hH : Go.Sort.Holds encStr w g 0 xs.toArray := holds_of_block hg (by simpa [hn] using h4)
    have eg : ∀ args w, (callFunc 40 args).run Try.prog w = .ok (.enter 40 args) w := enters_of Try.func40 (by kernel_rfl) rfl
    have hpred : PredAt Try.prog 40 #[.pointer (some ⟨bx, 0, none⟩)] encStr (fun x => !preS p ⟨x.toArray⟩) w := fun W x hbW => gives48 x p bx W ((hbW.cell (p := ⟨bx, 0, none⟩) (by show bx < w.heap.size; omega)).trans hc)
    have hover : PredOver Try.prog 40 #[.pointer (some ⟨bx, 0, none⟩)] encStr (fun x => !preS p ⟨x.toArray⟩) g 0 xs.toArray.size w := fun q os dk x _ => gives48 x p bx _ (by
      unfold sortWorld
      rw [Go.Sort.cell?_grow _ _ _ (by show bx < (Go.Sort.putRow _ _ _ _ _).heap.size; rw [Go.Sort.size_putRow]; show bx < w.heap.size; omega), Go.Sort.cell?_putRow_other _ _ g 0 _ _ (Or.inl (by show bx ≠ g; omega))]
      exact hc)
    have hcon := AnyE.slices_DeleteFunc Try.del39 encStr (fun _ => rfl) (fun x => !preS p ⟨x.toArray⟩) 40 #[.pointer (some ⟨bx, 0, none⟩)] eg [] Try.zeroValue9 g 0 cap xs.toArray w hpred hover hH (by simp; omega) (by simp; omega)
    change Calls Try.prog 39 _ _ _ at hcon
    have ef : (xs.toArray.toList.filter fun x => !(!preS p ⟨x.toArray⟩)) = xs.filter fun k => preS p ⟨k.toArray⟩ := by simp
    have es : xs.toArray.size = n := by simpa using hn
    rw [ef, es] at hcon
    have hle : (xs.filter fun k => preS p ⟨k.toArray⟩).length ≤ n := by rw [← hn]; exact List.length_filter_le _ _
    generalize (xs.filter fun k => preS p ⟨k.toArray⟩) = F at hcon hle ⊢
    refine hcon.mono fun e w' ⟨he, q, hw⟩ => ⟨_, _, he, .inr ⟨g, rfl, fun i x hi => ?_⟩, ?_⟩
    · have hi' := (List.getElem?_eq_some_iff.1 hi).1
      have hD : (F ++ List.replicate (n - F.length) []).toArray.size = xs.toArray.size := by simp; omega
      have := Go.Sort.cell?_putRow encStr (Go.Sort.ahead w q) g 0 xs.toArray (F ++ List.replicate (n - F.length) []).toArray hH hD i (by rw [hD, es]; omega)
      rw [Nat.zero_add] at this
      rw [hw, this]
      have hx : (F ++ List.replicate (n - F.length) []).toArray[i]! = x := by
        rw [getElem!_pos _ i (by rw [hD, es]; omega)]
        simp only [List.getElem_toArray]
        rw [List.getElem_append_left hi']
        exact (List.getElem?_eq_some_iff.1 hi).2
      rw [hx]
    · have hgb : w.grownBy w' (some g) := by
        have := grownBy_sorted (w := w) (g := g) (n := q) (os := #[]) (F ++ List.replicate (n - F.length) []).toArray
        rw [Go.Sort.grow_empty] at this
        rw [hw]
        exact this
      exact ⟨hgb.os, hgb.tape, hgb.output, hgb.size, fun k hk => hgb.block k (by omega) (by simp; omega)⟩
theorem list_nil (p : ByteArray) (w : World) : Calls Try.prog 14 #[.pointer none, .string p] w fun e w' => e = .returned (.slice none 0 0) ∧ Below w.heap.size w w' := by
  go_enter Try.func14, Try.ntmps14
  go_wp2_with (go_at_call 8; refine (on_nil _).mono ?_; rintro e w2 ⟨rfl, rfl⟩)
  go_ret
  exact ⟨rfl, (Below.refl _ _).alloc (Nat.le_refl _) _⟩
set_option maxHeartbeats 1000000 in
theorem list_some (N d : Nat) (S : Dk) (hon : S.on = true) (p : ByteArray) (w : World) (h : DiskAt w N d S) :
    Calls Try.prog 14 #[.pointer (some ⟨d, 0, none⟩), .string p] w fun e w' => ∃ a c, e = .returned (.slice a (listK S p).length c) ∧ NamesIn w' a (listK S p) ∧ Below w.heap.size w w' := by
  have hmf : ∀ (fn : Fn) (first cap : Array Value) (w : World), (Instr.makeFunc fn first cap).run Try.prog w = .ok (.func fn first cap) w := fun _ _ _ _ => rfl
  have h1 : DiskAt (w.alloc (.cells #[.string p] 9)) N d S := h.alloc _
  have hlen : S.fs.length ≤ 256 := by
    obtain ⟨_, _, _, _, ho⟩ := h.open
    exact ho.fine.len
  have hOn : Hid (Calls Try.prog 8 #[.pointer (some ⟨d, 0, none⟩)] (w.alloc (.cells #[.string p] 9)) fun e w' => e = .returned (.bool true) ∧ w' = w.alloc (.cells #[.string p] 9)) := by
    have := on_some N d S _ h1
    rw [hon] at this
    exact this
  have hbx : Holds (w.alloc (.cells #[.string p] 9)) w.heap.size [.string p] 9 := holds_new w [.string p] 9
  have hNm : Hid (Calls Try.prog 34 #[.pointer (some ⟨d, 0, none⟩)] (w.alloc (.cells #[.string p] 9)) fun e w' => ∃ v, e = .returned v ∧ w'.ownsRow (w.heap.size + 1) 9 1 v S.fs.length ((S.fs.map Prod.fst).map encStr) ∧ Below (w.heap.size + 1) (w.alloc (.cells #[.string p] 9)) w') := by
    have := names_some N d S _ h1
    rw [World.size_alloc] at this
    exact this
  have hDl : Hid (∀ W v, W.ownsRow (w.heap.size + 1) 9 1 v S.fs.length ((S.fs.map Prod.fst).map encStr) → Below (w.heap.size + 1) (w.alloc (.cells #[.string p] 9)) W → Calls Try.prog 39 #[v, .func (.func 40) #[] #[.pointer (some ⟨w.heap.size, 0, none⟩)]] W fun e w' => ∃ a c, e = .returned (.slice a (listK S p).length c) ∧ NamesIn w' a (listK S p) ∧ Below (w.heap.size + 1) W w') := fun W v hW hb =>
    delete_row (w.heap.size + 1) S.fs.length v (S.fs.map Prod.fst) (by simp) p w.heap.size W hW ((hbx.below hb (by omega)).at 0 _ rfl) (by omega) hlen
  have hB : Hid (Below w.heap.size w (w.alloc (.cells #[.string p] 9))) := (Below.refl _ _).alloc (Nat.le_refl _) _
  generalize listK S p = F at *
  clear h h1 hbx hlen
  go_enter Try.func14, Try.ntmps14
  go_wp2_with (first
    | (go_at_call 8; refine hOn.out.mono ?_; rintro e w2 ⟨rfl, rfl⟩)
    | (go_at_call 34; refine hNm.out.mono ?_; rintro e w3 ⟨v3, rfl, r3, b3⟩)
    | (go_at_call 39; refine (hDl.out _ _ r3 b3).mono ?_; rintro e w4 ⟨a4, c4, rfl, n4, b4⟩))
  go_ret
  exact ⟨a4, c4, rfl, n4, (hB.out.trans (b3.mono (by omega))).trans (b4.mono (by omega))⟩
end Go.Proofs.Ythaknjbcmflegaa
