/- PkWrite, PkLay, PkBytes. -/
import Derived.Laws.BytesString
import Derived.Test.YthmnjebmnocoiaaGreatYP1
/- What package pack's writers do in memory: num, integer, flag, raw, text. -/
namespace Go.Proofs.YthmnjebmnocoiaaGreat.Pk
open Go.RowKit

def byteV (c : UInt8) : Value := .int .u8 (c.toNat : Int)
theorem und70 : Tryz.prog.underlying 70 = some (.slice 5) := by kernel_rfl
theorem und9 : Tryz.prog.underlying 9 = some .string := by kernel_rfl
theorem full5 : (Tryz.prog.info? 5).map (fun i => (i.zero, i.size, i.bytes)) = some (some (.int .u8 0), 1, 1) := by kernel_rfl
theorem inf5 : ∃ i, Tryz.prog.info? 5 = some i ∧ i.zero = some (.int .u8 0) ∧ i.size = 1 ∧ i.bytes = 1 := by
  have := full5
  cases h : Tryz.prog.info? 5 with
  | none => simp [h] at this
  | some i =>
    simp [h] at this
    exact ⟨i, rfl, this.1, this.2.1, this.2.2⟩

def notByte (w : World) (k : Nat) : Prop := ∀ cs fr, w.heap[k]? ≠ some (.cells cs 5 fr)
structure WUpd (B : Nat) (w w' : World) : Prop where
  os : w'.os = w.os
  tape : w'.tape = w.tape
  output : w'.output = w.output
  size : w.heap.size ≤ w'.heap.size
  low : ∀ k, k < B → w'.heap[k]? = w.heap[k]?
  other : ∀ k, k < w.heap.size → k ≠ B → notByte w k → w'.heap[k]? = w.heap[k]?
theorem WUpd.refl (B : Nat) (w : World) : WUpd B w w := ⟨rfl, rfl, rfl, Nat.le_refl _, fun _ _ => rfl, fun _ _ _ _ => rfl⟩
theorem WUpd.trans {B : Nat} {x y z : World} (h : WUpd B x y) (k : WUpd B y z) : WUpd B x z :=
  ⟨k.os.trans h.os, k.tape.trans h.tape, k.output.trans h.output, Nat.le_trans h.size k.size, fun i hi => (k.low i hi).trans (h.low i hi), fun i hi hb hn =>
    have e := h.other i hi hb hn
    (k.other i (Nat.lt_of_lt_of_le hi h.size) hb (fun cs fr => by rw [e]; exact hn cs fr)).trans e⟩
theorem WUpd.below {B C : Nat} {x y : World} (h : WUpd B x y) (hC : C ≤ B) : Below C x y :=
  ⟨h.os, h.tape, h.output, h.size, fun k hk => h.low k (by omega)⟩
theorem WUpd.ofBelow {B : Nat} {x y : World} (hB : B ≤ x.heap.size) (h : Below x.heap.size x y) : WUpd B x y :=
  ⟨h.os, h.tape, h.output, h.size, fun k hk => h.block k (by omega), fun k hk _ _ => h.block k hk⟩
theorem _root_.Go.Proofs.YthmnjebmnocoiaaGreat.Holds.notByte {w : World} {b : Nat} {cs : List Value} {t : TypeId} (h : Holds w b cs t) (ht : t ≠ 5) : notByte w b := fun ds fr e => by
  unfold Holds at h
  rw [h] at e
  simp at e
  exact ht e.2.1
theorem _root_.Go.Proofs.YthmnjebmnocoiaaGreat.Holds.wupd {w w' : World} {b B : Nat} {cs : List Value} {t : TypeId} (h : Holds w b cs t) (hu : WUpd B w w') (hne : b ≠ B) (ht : t ≠ 5) : Holds w' b cs t := by
  unfold Holds
  rw [hu.other b h.lt hne (h.notByte ht)]; exact h

def Wr (w : World) (B : Nat) (bs : List UInt8) : Prop := ∃ v, Holds w B [v] 72 ∧ w.ownsRow (B + 1) 5 1 v bs.length (bs.map byteV)
theorem Wr.lt {w : World} {B : Nat} {bs : List UInt8} (h : Wr w B bs) : B < w.heap.size := by
  obtain ⟨v, h, _⟩ := h
  exact h.lt
theorem Wr.alloc {w : World} {B : Nat} {bs : List UInt8} (h : Wr w B bs) (o : Obj) : Wr (w.alloc o) B bs := by
  obtain ⟨v, h1, h2⟩ := h
  exact ⟨v, h1.alloc o, h2.alloc o⟩
theorem Wr.below {w w' : World} {B : Nat} {bs : List UInt8} (h : Wr w B bs) (hb : Below w.heap.size w w') : Wr w' B bs := by
  obtain ⟨v, h1, h2⟩ := h
  refine ⟨v, h1.below hb h1.lt, ?_⟩
  refine h2.kept (w' := w') (row := none) ⟨hb.os, hb.tape, hb.output, hb.size, fun k hk _ => hb.block k hk⟩ ?_
  cases v.ownBlock <;> simp
theorem wr_step {w w1 w3 : World} {B n m : Nat} {v v' : Value} {xs ys : List Value} (hB : Holds w B [v] 72) (hown : w.ownsRow (B + 1) 5 1 v n xs) (hb : Below w.heap.size w w1)
    (hgrow : w1.grownBy w3 v.ownBlock) (hown3 : w3.ownsRow (B + 1) 5 1 v' m ys) :
    Holds w3 B [v] 72 ∧ Holds (w3.setCell ⟨B, 0, none⟩ v') B [v'] 72 ∧ (w3.setCell ⟨B, 0, none⟩ v').ownsRow (B + 1) 5 1 v' m ys ∧ WUpd B w (w3.setCell ⟨B, 0, none⟩ v') := by
  have hbl : ∀ k, k < w.heap.size → some k ≠ v.ownBlock → w3.heap[k]? = w.heap[k]? := fun k hk hne =>
    (hgrow.block k (Nat.lt_of_lt_of_le hk hb.size) hne).trans (hb.block k hk)
  have hvB : ∀ k, v.ownBlock = some k → B + 1 ≤ k := fun k hk => (hown.lt k hk).1
  have h3 : Holds w3 B [v] 72 := by
    unfold Holds
    rw [hbl B hB.lt (fun e => by have := hvB B e.symm; omega)]; exact hB
  have h4 : Holds (w3.setCell ⟨B, 0, none⟩ v') B [v'] 72 := h3.set 0 v'
  refine ⟨h3, h4, ?_, ?_⟩
  · exact ownsRow_setCell_other hown3 (fun e => by have := (hown3.lt B e).1; omega) v'
  · refine ⟨hgrow.os.trans hb.os, hgrow.tape.trans hb.tape, hgrow.output.trans hb.output, by have h1 := hb.size; have h2 := hgrow.size; simp; omega, fun k hk => ?_, fun k hk hne hn => ?_⟩
    · rw [heap_setCell_other w3 ⟨B, 0, none⟩ k v' (by show k ≠ B; omega)]
      exact hbl k (by have := hB.lt; omega) (fun e => by have := hvB k e.symm; omega)
    · rw [heap_setCell_other w3 ⟨B, 0, none⟩ k v' hne]
      refine hbl k hk (fun e => ?_)
      rcases hown.2 with ⟨rfl, _⟩ | ⟨g, cap, cur, rfl, _, hg, _⟩
      · simp [Value.ownBlock] at e
      · simp [Value.ownBlock] at e
        subst e
        exact hn _ _ hg

theorem wr_of {w : World} {B n : Nat} {v : Value} {ys : List Value} {bs : List UInt8} (hB : Holds w B [v] 72) (hown : w.ownsRow (B + 1) 5 1 v n ys) (hy : ys = bs.map byteV) : Wr w B bs := by
  subst hy
  have : n = bs.length := by have := hown.1; simp at this; omega
  subst this
  exact ⟨v, hB, hown⟩
theorem own_slice {w : World} {base : Nat} {e : TypeId} {size : Nat} {v : Value} {n : Nat} {xs : List Value} (h : w.ownsRow base e size v n xs) : ∃ a k c, v = .slice a k c := by
  rcases h.2 with ⟨rfl, _⟩ | ⟨g, cap, cur, rfl, _⟩
  · exact ⟨_, _, _, rfl⟩
  · exact ⟨_, _, _, rfl⟩
theorem or128 (m : Nat) : bits .or .u8 ((m : Int) % 256) 128 = ((m % 128 + 128 : Nat) : Int) := by
  have e : ((m : Int) % 256) = ((m % 256 : Nat) : Int) := by omega
  rw [e]
  show IntKind.u8.wrap ((BitVec.ofInt 8 ((m % 256 : Nat) : Int) ||| BitVec.ofInt 8 ((128 : Nat) : Int)).toNat : Int) = _
  rw [BitVec.toNat_or, ofInt_nat 8 _ (by omega), ofInt_nat 8 128 (by omega), wrap_u8]
  have h1 : m % 256 ||| 128 = m % 128 + 128 := by
    rcases Nat.lt_or_ge (m % 256) 128 with h | h
    · have := Nat.two_pow_add_eq_or_of_lt (i := 7) (b := m % 256) (by omega) 1
      rw [Nat.or_comm]
      simp at this
      omega
    · have h2 := Nat.two_pow_add_eq_or_of_lt (i := 7) (b := m % 256 - 128) (by omega) 1
      simp at h2
      have h3 : m % 256 = 128 ||| (m % 256 - 128) := by omega
      rw [h3, Nat.or_comm, ← Nat.or_assoc, Nat.or_self, ← h3]
      omega
  rw [h1]; omega
theorem byteV_ofNat (m : Nat) : byteV (UInt8.ofNat m) = .int .u8 ((m : Int) % 256) := by
  unfold byteV; simp

set_option maxHeartbeats 400000 in
set_option maxRecDepth 100000 in
theorem wnum_any (B : Nat) (bs : List UInt8) (n : Nat) (hn : n < 18446744073709551616) (hl : bs.length + 10 ≤ 140737488355328) (w : World) (hw : Wr w B bs) :
    Calls Tryz.prog 76 #[.pointer (some ⟨B, 0, none⟩), .int .u64 (n : Int)] w fun e w' => e = .returned (.tuple #[]) ∧ Wr w' B (bs ++ numL n) ∧ WUpd B w w' := by
  obtain ⟨i5, hi5, hz5, hs5, hb5⟩ := inf5
  have F5 : Hid (Tryz.prog.info? 5 = some i5) := hi5
  clear hi5
  have h10 := numL_len10 n hn
  go_enter Tryz.func76, Tryz.ntmps76
  go_wp2_with fail
  go_loopw [1] (fun v wr => ∃ (m : Nat) (p : List UInt8), m ≤ n ∧ v = .int .u64 (m : Int) ∧ numL n = p ++ numL m ∧ Wr wr B (bs ++ p) ∧ WUpd B w wr) (fun v _ => (intOf v).toNat)
  case atStart => exact ⟨n, [], Nat.le_refl _, rfl, rfl, by simpa using hw, WUpd.refl B w⟩
  case round =>
    obtain ⟨m, p, hm, rfl, hp, hW, hU⟩ := hrel
    have hpl : p.length ≤ 10 := by rw [hp] at h10; simp at h10; omega
    have hP : Hid (numL n = p ++ numL m) := hp
    clear hp h10
    obtain ⟨v, hB, hown⟩ := hW
    have hbl : (bs ++ p).length ≤ 140737488355327 := by
      simp only [List.length_append]
      have := hP.out
      have h1 := numL_len10 n hn
      rw [this] at h1
      have : 0 < (numL m).length := by
        by_cases h : m < 128
        · rw [numL_small h]; simp
        · rw [numL_big h]; simp
      simp at h1
      omega
    generalize hN : (bs ++ p).length = N at hown hbl
    have cB : wr.cell? ⟨B, 0, none⟩ = some v := hB.at 0 _ rfl
    by_cases hlt : (128 : Int) ≤ (m : Int)
    · have hnews : Hid (∀ (k : Nat) (u : Value), [Value.int .u8 (bits .or .u8 ((m : Int) % 256) 128)][k]? = some u → (wr.alloc (.cells #[.int .u8 (bits .or .u8 ((m : Int) % 256) 128)] 5)).cell? ((⟨wr.heap.size, 0, none⟩ : Addr).add k) = some u) := World.news_of_block (heap_alloc_new wr _)
      have hbase : B + 1 ≤ (wr.alloc (.cells #[.int .u8 (bits .or .u8 ((m : Int) % 256) 128)] 5)).heap.size := by have := hB.lt; simp; omega
      have hbelow : Below wr.heap.size wr (wr.alloc (.cells #[.int .u8 (bits .or .u8 ((m : Int) % 256) 128)] 5)) := (Below.refl _ _).alloc (Nat.le_refl _) _
      go_wp2_with (first
        | (at_builtin; refine wpList_append_lies _ rfl (.tmp 10) (.tmp 14) 70 rfl (B + 1) 5 i5 (.int .u8 0) 1 1 und70 F5.out hz5 hs5 hb5 rfl (by omega) v N ((bs ++ p).map byteV) rfl (hown.alloc _) ⟨wr.heap.size, 0, none⟩ 1 1 [.int .u8 (bits .or .u8 ((m : Int) % 256) 128)] rfl rfl hnews.out (by intro u hu; simp at hu; subst hu; rfl) (by omega) (by unfold maxLen; omega) (by omega) hbase (wr.heap.size + 1) (by simp) ?_; intro g cap w3 hown3 hgrow hat hlt3; obtain ⟨hB3, hB4, hown4, hU4⟩ := wr_step hB hown hbelow hgrow hown3; have cB3 : w3.cell? ⟨B, 0, none⟩ = some v := hB3.at 0 _ rfl; have fB3 : w3.frozen? ⟨B, 0, none⟩ = false := hB3.frozen 0))
      have hm2 : ¬ m < 128 := by omega
      refine ⟨⟨m / 128, p ++ [UInt8.ofNat (m % 128 + 128)], by omega, rfl, ?_, ?_, hU.trans hU4⟩, by simp; omega⟩
      · rw [hP.out, numL_big hm2]; simp
      · refine wr_of hB4 hown4 ?_
        have hx : Value.int .u8 ((m % 128 + 128 : Nat) : Int) = byteV (UInt8.ofNat (m % 128 + 128)) := by
          rw [byteV_ofNat]; congr 1; omega
        rw [or128, hx]; simp
    · have hm2 : m < 128 := by omega
      have hme : (m : Int) % 256 = (m : Int) := by omega
      have hnews : Hid (∀ (k : Nat) (u : Value), [Value.int .u8 (m : Int)][k]? = some u → (wr.alloc (.cells #[.int .u8 (m : Int)] 5)).cell? ((⟨wr.heap.size, 0, none⟩ : Addr).add k) = some u) := World.news_of_block (heap_alloc_new wr _)
      have hbase : B + 1 ≤ (wr.alloc (.cells #[.int .u8 (m : Int)] 5)).heap.size := by have := hB.lt; simp; omega
      have hbelow : Below wr.heap.size wr (wr.alloc (.cells #[.int .u8 (m : Int)] 5)) := (Below.refl _ _).alloc (Nat.le_refl _) _
      go_wp2_with (first
        | (at_builtin; refine wpList_append_lies _ rfl (.tmp 24) (.tmp 27) 70 rfl (B + 1) 5 i5 (.int .u8 0) 1 1 und70 F5.out hz5 hs5 hb5 rfl (by omega) v N ((bs ++ p).map byteV) rfl (hown.alloc _) ⟨wr.heap.size, 0, none⟩ 1 1 [.int .u8 (m : Int)] rfl rfl hnews.out (by intro u hu; simp at hu; subst hu; rfl) (by omega) (by unfold maxLen; omega) (by omega) hbase (wr.heap.size + 1) (by simp) ?_; intro g cap w3 hown3 hgrow hat hlt3; obtain ⟨hB3, hB4, hown4, hU4⟩ := wr_step hB hown hbelow hgrow hown3; have cB3 : w3.cell? ⟨B, 0, none⟩ = some v := hB3.at 0 _ rfl; have fB3 : w3.frozen? ⟨B, 0, none⟩ = false := hB3.frozen 0))
      refine bodyPost_end (results_none (by kernel_rfl) _ _ _) rfl ⟨rfl, ?_, hU.trans hU4⟩
      refine wr_of hB4 hown4 ?_
      have hx : Value.int .u8 (m : Int) = byteV (UInt8.ofNat m) := by rw [byteV_ofNat, hme]
      rw [hP.out, numL_small hm2, hx]; simp

def zig (n : Int) : Nat := if n < 0 then (-2 * n - 1).toNat else (2 * n).toNat
theorem zig_lt (n : Int) (h : -9223372036854775808 ≤ n ∧ n < 9223372036854775808) : zig n < 18446744073709551616 := by
  unfold zig
  split <;> omega
theorem not_u64 (x : Nat) (h : x < 18446744073709551616) : bits .xor .u64 IntKind.u64.max (x : Int) = 18446744073709551615 - (x : Int) := by
  show IntKind.u64.wrap ((BitVec.ofInt 64 IntKind.u64.max ^^^ BitVec.ofInt 64 (x : Int)).toNat : Int) = _
  rw [show BitVec.ofInt 64 IntKind.u64.max = BitVec.allOnes 64 by decide, BitVec.allOnes_xor, BitVec.toNat_not, ofInt_nat 64 x (by omega), wrap_u64]
  omega
theorem zig_neg (n : Int) (h : -9223372036854775808 ≤ n) (h0 : n < 0) : bits .xor .u64 IntKind.u64.max (IntKind.u64.wrap (IntKind.u64.wrap n * 2)) = (zig n : Int) := by
  have e : IntKind.u64.wrap (IntKind.u64.wrap n * 2) = (((2 * n + 18446744073709551616).toNat : Nat) : Int) := by
    rw [wrap_u64, wrap_u64]; omega
  rw [e, not_u64 _ (by omega), zig, if_pos h0]
  omega
theorem zig_pos (n : Int) (h0 : ¬ n < 0) : n * 2 = (zig n : Int) := by
  rw [zig, if_neg h0]; omega
set_option maxRecDepth 100000 in
theorem winteger_any (B : Nat) (bs : List UInt8) (n : Int) (h : -9223372036854775808 ≤ n ∧ n < 9223372036854775808) (hl : bs.length + 10 ≤ 140737488355328) (w : World) (hw : Wr w B bs) :
    Calls Tryz.prog 78 #[.pointer (some ⟨B, 0, none⟩), .int .i64 n] w fun e w' => e = .returned (.tuple #[]) ∧ Wr w' B (bs ++ numL (zig n)) ∧ WUpd B w w' := by
  have hn : Hid (Calls Tryz.prog 76 #[.pointer (some ⟨B, 0, none⟩), .int .u64 (zig n : Int)] w fun e w' => e = .returned (.tuple #[]) ∧ Wr w' B (bs ++ numL (zig n)) ∧ WUpd B w w') := wnum_any B bs (zig n) (zig_lt n h) hl w hw
  by_cases h0 : n < 0
  · rw [← zig_neg n h.1 h0] at hn
    go_enter Tryz.func78, Tryz.ntmps78
    go_wp2_with (go_at_call 76; refine hn.out.mono ?_; rintro e w1 ⟨rfl, h1, u1⟩)
    all_goals first | contradiction | exact bodyPost_end (results_none (by kernel_rfl) _ _ _) rfl ⟨rfl, h1, u1⟩
  · rw [← zig_pos n h0] at hn
    go_enter Tryz.func78, Tryz.ntmps78
    go_wp2_with (go_at_call 76; refine hn.out.mono ?_; rintro e w1 ⟨rfl, h1, u1⟩)
    exact bodyPost_end (results_none (by kernel_rfl) _ _ _) rfl ⟨rfl, h1, u1⟩
end Go.Proofs.YthmnjebmnocoiaaGreat.Pk

/- What lay does with each kind of thing, and the exported writings by it. -/
namespace Go.Proofs.YthmnjebmnocoiaaGreat.Pk
open Go.RowKit

def Keep (w : World) (L B : Nat) : Prop := L < w.heap.size ∧ (L < B ∨ (L ≠ B ∧ notByte w L))
theorem Keep.cell {w w' : World} {L B : Nat} (h : Keep w L B) (hu : WUpd B w w') (i : Nat) : w'.cell? ⟨L, i, none⟩ = w.cell? ⟨L, i, none⟩ := by
  refine World.cell?_of_block ?_
  rcases h.2 with h2 | ⟨h2, h3⟩
  · exact hu.low L h2
  · exact hu.other L h.1 h2 h3
theorem keep_new (w : World) (cs : List Value) (t : TypeId) (ht : t ≠ 5) (B : Nat) (hB : B < w.heap.size) : Keep (w.alloc (.cells cs.toArray t)) w.heap.size B :=
  ⟨by simp, .inr ⟨by omega, (holds_new w cs t).notByte ht⟩⟩
theorem take_flat {α : Type} (f : α → List UInt8) (vs : List α) (k : Nat) (x : α) (hx : vs[k]? = some x) : (vs.take (k + 1)).flatMap f = (vs.take k).flatMap f ++ f x := by
  rw [List.take_add_one, hx]; simp
theorem take_flat_len {α : Type} (f : α → List UInt8) (vs : List α) (k : Nat) : ((vs.take k).flatMap f).length ≤ (vs.flatMap f).length := by
  have h : vs.flatMap f = (vs.take k).flatMap f ++ (vs.drop k).flatMap f := by rw [← List.flatMap_append, List.take_append_drop]
  rw [h, List.length_append]; omega

set_option maxHeartbeats 400000 in
set_option maxRecDepth 100000 in
theorem lay33_34 (B : Nat) (bs : List UInt8) (vs : List Nat) (hv : ∀ x ∈ vs, x < 18446744073709551616) (L o cap : Nat) (w : World) (hw : Wr w B bs) (hL : Keep w L B)
    (hc : ∀ (i : Nat) (x : Nat), vs[i]? = some x → w.cell? ⟨L, o + i, none⟩ = some (.int .u64 (x : Int))) (hl : bs.length + (vs.flatMap numL).length + 10 ≤ 140737488355328) (hlen : vs.length < 9223372036854775807) :
    Calls Tryz.prog 75 #[.pointer (some ⟨B, 0, none⟩), .func (.func 76) #[.pointer (some ⟨B, 0, none⟩)] #[], .slice (some ⟨L, o, none⟩) vs.length cap] w fun e w' =>
      e = .returned (.pointer (some ⟨B, 0, none⟩)) ∧ Wr w' B (bs ++ vs.flatMap numL) ∧ WUpd B w w' := by
  have hel : Hid (∀ (x : Nat) (bs' : List UInt8) (W : World), x < 18446744073709551616 → Wr W B bs' → bs'.length + (numL x).length + 10 ≤ 140737488355328 → Calls Tryz.prog 76 #[.pointer (some ⟨B, 0, none⟩), (.int .u64 (x : Int))] W fun e w' => e = .returned (.tuple #[]) ∧ Wr w' B (bs' ++ numL x) ∧ WUpd B W w') :=
    fun x bs' W hx hW hb => wnum_any B bs' x hx (by omega) W hW
  have hv : Hid (∀ x ∈ vs, x < 18446744073709551616) := hv
  have hc : Hid (∀ (i : Nat) (x : Nat), vs[i]? = some x → w.cell? ⟨L, o + i, none⟩ = some (.int .u64 (x : Int))) := hc
  have hl : Hid (bs.length + (vs.flatMap numL).length + 10 ≤ 140737488355328) := hl
  obtain ⟨n, hn⟩ : ∃ n, vs.length = n := ⟨_, rfl⟩
  have HN : Hid (vs.length = n) := hn
  rw [hn] at hlen ⊢
  clear hn
  go_enter Tryz.func75, Tryz.ntmps75
  go_wp2_with fail
  go_loopw [13] (fun c wr => ∃ k : Nat, k ≤ n ∧ c = .int .i64 (k : Int) ∧ Wr wr B (bs ++ (vs.take k).flatMap numL) ∧ WUpd B w wr) (fun c _ => n - (intOf c).toNat)
  case atStart => exact ⟨0, by omega, rfl, by simpa using hw, WUpd.refl B w⟩
  case round =>
    obtain ⟨k, hk, rfl, hW, hU⟩ := hrel
    by_cases hlt : k < n
    · obtain ⟨x, hx⟩ : ∃ x, vs[k]? = some x := ⟨vs[k]'(by have := HN.out; omega), List.getElem?_eq_getElem _⟩
      have ck : wr.cell? ⟨L, o + k, none⟩ = some (.int .u64 (x : Int)) := by rw [hL.cell hU]; exact hc.out k x hx
      have hxc := hv.out x (List.mem_of_getElem? hx)
      have hcall : Hid (Calls Tryz.prog 76 #[.pointer (some ⟨B, 0, none⟩), (.int .u64 (x : Int))] wr fun e w' => e = .returned (.tuple #[]) ∧ Wr w' B (bs ++ (vs.take (k + 1)).flatMap numL) ∧ WUpd B wr w') := by
        have := hel.out x _ wr hxc hW (by
          have h1 := take_flat_len numL vs (k + 1)
          rw [take_flat numL vs k x hx] at h1
          have h2 := hl.out
          simp only [List.length_append] at h1 ⊢
          omega)
        rw [List.append_assoc, ← take_flat numL vs k x hx] at this
        exact this
      clear hW
      have hX : Hid (vs[k]? = some x) := hx
      clear hx
      go_wp2_with (go_at_call 76; refine hcall.out.mono ?_; rintro e w2 ⟨rfl, h2, u2⟩)
      exact ⟨⟨k + 1, by omega, rfl, h2, hU.trans u2⟩, by simp; omega⟩
    · have htk : vs.take k = vs := List.take_of_length_le (by have := HN.out; omega)
      rw [htk] at hW
      clear htk
      go_wp2
      go_ret
      exact ⟨rfl, hW, hU⟩
set_option maxRecDepth 100000 in
theorem wnums_any (B : Nat) (bs : List UInt8) (vs : List Nat) (hv : ∀ x ∈ vs, x < 18446744073709551616) (L o cap : Nat) (w : World) (hw : Wr w B bs) (hL : Keep w L B)
    (hc : ∀ (i : Nat) (x : Nat), vs[i]? = some x → w.cell? ⟨L, o + i, none⟩ = some (.int .u64 (x : Int))) (hl : bs.length + (vs.flatMap numL).length + 10 ≤ 140737488355328) (hlen : vs.length < 9223372036854775807) :
    Calls Tryz.prog 48 #[.pointer (some ⟨B, 0, none⟩), .slice (some ⟨L, o, none⟩) vs.length cap] w fun e w' =>
      e = .returned (.pointer (some ⟨B, 0, none⟩)) ∧ Wr w' B (bs ++ vs.flatMap numL) ∧ WUpd B w w' := by
  have hcall : Hid (Calls Tryz.prog 75 #[.pointer (some ⟨B, 0, none⟩), .func (.func 76) #[.pointer (some ⟨B, 0, none⟩)] #[], .slice (some ⟨L, o, none⟩) vs.length cap] w fun e w' =>
      e = .returned (.pointer (some ⟨B, 0, none⟩)) ∧ Wr w' B (bs ++ vs.flatMap numL) ∧ WUpd B w w') := lay33_34 B bs vs hv L o cap w hw hL hc hl hlen
  clear hc hv hl
  go_enter Tryz.func48, Tryz.ntmps48
  go_wp2_with (go_at_call 75; refine hcall.out.mono ?_; rintro e w2 ⟨rfl, h2, u2⟩)
  go_ret
  exact ⟨rfl, h2, u2⟩
set_option maxHeartbeats 400000 in
set_option maxRecDepth 100000 in
theorem lay47_48 (B : Nat) (bs : List UInt8) (vs : List Int) (hv : ∀ x ∈ vs, (-9223372036854775808 ≤ x ∧ x < 9223372036854775808)) (L o cap : Nat) (w : World) (hw : Wr w B bs) (hL : Keep w L B)
    (hc : ∀ (i : Nat) (x : Int), vs[i]? = some x → w.cell? ⟨L, o + i, none⟩ = some (.int .i64 x)) (hl : bs.length + (vs.flatMap (fun x => numL (zig x))).length + 10 ≤ 140737488355328) (hlen : vs.length < 9223372036854775807) :
    Calls Tryz.prog 77 #[.pointer (some ⟨B, 0, none⟩), .func (.func 78) #[.pointer (some ⟨B, 0, none⟩)] #[], .slice (some ⟨L, o, none⟩) vs.length cap] w fun e w' =>
      e = .returned (.pointer (some ⟨B, 0, none⟩)) ∧ Wr w' B (bs ++ vs.flatMap (fun x => numL (zig x))) ∧ WUpd B w w' := by
  have hel : Hid (∀ (x : Int) (bs' : List UInt8) (W : World), (-9223372036854775808 ≤ x ∧ x < 9223372036854775808) → Wr W B bs' → bs'.length + ((fun x => numL (zig x)) x).length + 10 ≤ 140737488355328 → Calls Tryz.prog 78 #[.pointer (some ⟨B, 0, none⟩), (.int .i64 x)] W fun e w' => e = .returned (.tuple #[]) ∧ Wr w' B (bs' ++ (fun x => numL (zig x)) x) ∧ WUpd B W w') :=
    fun x bs' W hx hW hb => winteger_any B bs' x hx (by omega) W hW
  have hv : Hid (∀ x ∈ vs, (-9223372036854775808 ≤ x ∧ x < 9223372036854775808)) := hv
  have hc : Hid (∀ (i : Nat) (x : Int), vs[i]? = some x → w.cell? ⟨L, o + i, none⟩ = some (.int .i64 x)) := hc
  have hl : Hid (bs.length + (vs.flatMap (fun x => numL (zig x))).length + 10 ≤ 140737488355328) := hl
  obtain ⟨n, hn⟩ : ∃ n, vs.length = n := ⟨_, rfl⟩
  have HN : Hid (vs.length = n) := hn
  rw [hn] at hlen ⊢
  clear hn
  go_enter Tryz.func77, Tryz.ntmps77
  go_wp2_with fail
  go_loopw [13] (fun c wr => ∃ k : Nat, k ≤ n ∧ c = .int .i64 (k : Int) ∧ Wr wr B (bs ++ (vs.take k).flatMap (fun x => numL (zig x))) ∧ WUpd B w wr) (fun c _ => n - (intOf c).toNat)
  case atStart => exact ⟨0, by omega, rfl, by simpa using hw, WUpd.refl B w⟩
  case round =>
    obtain ⟨k, hk, rfl, hW, hU⟩ := hrel
    by_cases hlt : k < n
    · obtain ⟨x, hx⟩ : ∃ x, vs[k]? = some x := ⟨vs[k]'(by have := HN.out; omega), List.getElem?_eq_getElem _⟩
      have ck : wr.cell? ⟨L, o + k, none⟩ = some (.int .i64 x) := by rw [hL.cell hU]; exact hc.out k x hx
      have hxc := hv.out x (List.mem_of_getElem? hx)
      have hcall : Hid (Calls Tryz.prog 78 #[.pointer (some ⟨B, 0, none⟩), (.int .i64 x)] wr fun e w' => e = .returned (.tuple #[]) ∧ Wr w' B (bs ++ (vs.take (k + 1)).flatMap (fun x => numL (zig x))) ∧ WUpd B wr w') := by
        have := hel.out x _ wr hxc hW (by
          have h1 := take_flat_len (fun x => numL (zig x)) vs (k + 1)
          rw [take_flat (fun x => numL (zig x)) vs k x hx] at h1
          have h2 := hl.out
          simp only [List.length_append] at h1 ⊢
          omega)
        rw [List.append_assoc, ← take_flat (fun x => numL (zig x)) vs k x hx] at this
        exact this
      clear hW
      have hX : Hid (vs[k]? = some x) := hx
      clear hx
      go_wp2_with (go_at_call 78; refine hcall.out.mono ?_; rintro e w2 ⟨rfl, h2, u2⟩)
      exact ⟨⟨k + 1, by omega, rfl, h2, hU.trans u2⟩, by simp; omega⟩
    · have htk : vs.take k = vs := List.take_of_length_le (by have := HN.out; omega)
      rw [htk] at hW
      clear htk
      go_wp2
      go_ret
      exact ⟨rfl, hW, hU⟩
set_option maxRecDepth 100000 in
theorem wints_any (B : Nat) (bs : List UInt8) (vs : List Int) (hv : ∀ x ∈ vs, (-9223372036854775808 ≤ x ∧ x < 9223372036854775808)) (L o cap : Nat) (w : World) (hw : Wr w B bs) (hL : Keep w L B)
    (hc : ∀ (i : Nat) (x : Int), vs[i]? = some x → w.cell? ⟨L, o + i, none⟩ = some (.int .i64 x)) (hl : bs.length + (vs.flatMap (fun x => numL (zig x))).length + 10 ≤ 140737488355328) (hlen : vs.length < 9223372036854775807) :
    Calls Tryz.prog 49 #[.pointer (some ⟨B, 0, none⟩), .slice (some ⟨L, o, none⟩) vs.length cap] w fun e w' =>
      e = .returned (.pointer (some ⟨B, 0, none⟩)) ∧ Wr w' B (bs ++ vs.flatMap (fun x => numL (zig x))) ∧ WUpd B w w' := by
  have hcall : Hid (Calls Tryz.prog 77 #[.pointer (some ⟨B, 0, none⟩), .func (.func 78) #[.pointer (some ⟨B, 0, none⟩)] #[], .slice (some ⟨L, o, none⟩) vs.length cap] w fun e w' =>
      e = .returned (.pointer (some ⟨B, 0, none⟩)) ∧ Wr w' B (bs ++ vs.flatMap (fun x => numL (zig x))) ∧ WUpd B w w') := lay47_48 B bs vs hv L o cap w hw hL hc hl hlen
  clear hc hv hl
  go_enter Tryz.func49, Tryz.ntmps49
  go_wp2_with (go_at_call 77; refine hcall.out.mono ?_; rintro e w2 ⟨rfl, h2, u2⟩)
  go_ret
  exact ⟨rfl, h2, u2⟩
end Go.Proofs.YthmnjebmnocoiaaGreat.Pk

/- What Bytes answers. -/
namespace Go.Proofs.YthmnjebmnocoiaaGreat.Pk
open Go.RowKit

theorem und5 : Tryz.prog.underlying 5 = some (.int .u8) := by kernel_rfl
def strL (l : List UInt8) : ByteArray := ⟨l.toArray⟩
theorem str_nums (l : List UInt8) : strOfNums (l.map fun c => (c.toNat : Int)) = strL l := by
  unfold strOfNums strL
  rw [List.map_map]
  congr 2
  have : ((fun n : Int => UInt8.ofNat n.toNat) ∘ fun c : UInt8 => (c.toNat : Int)) = id := by
    funext c
    simp
  rw [this, List.map_id]
set_option maxRecDepth 100000 in
theorem convert_own {w : World} {B : Nat} {v : Value} {bs : List UInt8} (h : w.ownsRow B 5 1 v bs.length (bs.map byteV)) : (convert 70 9 v).run Tryz.prog w = .ok (.string (strL bs)) w := by
  rcases h.2 with ⟨rfl, h0⟩ | ⟨g, cap, cur, rfl, hg, hcur, hcap, hcm, hcz, htk⟩
  · have : bs = [] := List.eq_nil_of_length_eq_zero h0
    subst this
    rfl
  · have := run_convert_bytes_arg (P := Tryz.prog) w 70 5 und70 und5 g 0 bs.length cap (bs.map fun c => (c.toNat : Int)) (by simp) (fun i hi => by
      have hl : i < bs.length := by simpa using hi
      rw [Nat.zero_add, cell_of_row w g i cur 5 (0, 0) hcur]
      have h3 : (cur.toList.take (bs.length * 1))[i]? = (bs.map byteV)[i]? := by rw [htk]
      rw [List.getElem?_take_of_lt (by omega), Array.getElem?_toList] at h3
      rw [h3]
      simp [hl]; rfl) 9 und9
    rw [str_nums] at this
    exact this

set_option maxRecDepth 100000 in
theorem bytes_some (B : Nat) (bs : List UInt8) (w : World) (hw : Wr w B bs) :
    Calls Tryz.prog 50 #[.pointer (some ⟨B, 0, none⟩)] w fun e w' => e = .returned (.string (strL bs)) ∧ w' = w := by
  obtain ⟨v, hB, hown⟩ := hw
  have cB : w.cell? ⟨B, 0, none⟩ = some v := hB.at 0 _ rfl
  have hcv := convert_own hown
  obtain ⟨a, k, c, rfl⟩ := own_slice hown
  go_enter Tryz.func50, Tryz.ntmps50
  go_wp2
  go_ret
  exact ⟨rfl, rfl⟩
end Go.Proofs.YthmnjebmnocoiaaGreat.Pk
