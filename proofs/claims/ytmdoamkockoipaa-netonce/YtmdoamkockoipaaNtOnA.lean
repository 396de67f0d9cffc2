/- The law NetOnce (3): its calls. -/
import Derived.Test.YtmdoamkockoipaaNtOnM
import Derived.Test.YtmdoamkockoipaaNtApP
import Derived.Laws.IdiomStrings
import Derived.Deep.QuietTactic
import Derived.BigQuiet
namespace Go.Proofs.Ytmdoamkockoipaa
open Go.RowKit Go.Maps

theorem make61 (w : World) : (Instr.makeSlice 27 (.int .i64 61) (.int .i64 61)).run Try.prog w = .ok (.slice (some ⟨w.heap.size, 0, none⟩) 61 61) (w.alloc (.cells (gtV (List.replicate 61 0)).toArray 3)) := by kernel_rfl
/-- A text of one byte. -/
def oneB (i : Nat) : ByteArray := ⟨#[UInt8.ofNat i]⟩
theorem conv_one (W : World) (B i : Nat) (hi : i < 60) (h : W.cell? ⟨B, 0, none⟩ = some (.int .u8 (i : Int))) : (convert 31 9 (.slice (some ⟨B, 0, none⟩) 1 1)).run Try.prog W = .ok (.string (oneB i)) W := by
  have := run_convert_bytes_back (P := Try.prog) W 31 9 5 ⟨B, 0, none⟩ 1 [UInt8.ofNat i] (by kernel_rfl) (by kernel_rfl) (by kernel_rfl) (fun j hj => by
    obtain rfl : j = 0 := by simpa using hj
    have e : (UInt8.ofNat i).toNat = i := by simp; omega
    show W.cell? ((⟨B, 0, none⟩ : Addr).add 0) = some (.int .u8 ((UInt8.ofNat i).toNat : Int))
    rw [e, addr_plus]
    exact h)
  exact this
/-- Calls in memory. -/
def OpsAt (N : Nat) (w : World) (v : Value) (l : List Opc) : Prop :=
  ∃ a cap, v = .slice a l.length cap ∧ (l.length = 0 ∨ ∃ g o, a = some ⟨g, o, none⟩ ∧ g < N ∧ ∀ i c, l[i]? = some c → ∀ j u, (opcC c)[j]? = some u → w.cell? ⟨g, o + i * 6 + j, none⟩ = some u)
theorem OpsAt.below {N : Nat} {w w' : World} {v : Value} {l : List Opc} (h : OpsAt N w v l) (hb : Below N w w') : OpsAt N w' v l := by
  obtain ⟨a, cap, rfl, h0 | ⟨g, o, rfl, hg, hc⟩⟩ := h
  · exact ⟨a, cap, rfl, .inl h0⟩
  · exact ⟨_, cap, rfl, .inr ⟨g, o, rfl, hg, fun i x hi j u hu => (World.cell?_of_block (w := w) (hb.block g hg)).trans (hc i x hi j u hu)⟩⟩
theorem OpsAt.len {N : Nat} {w : World} {v : Value} {l : List Opc} (h : OpsAt N w v l) : ∃ a cap, v = .slice a l.length cap := by
  obtain ⟨a, cap, rfl, _⟩ := h
  exact ⟨a, cap, rfl⟩
theorem OpsAt.cell {N : Nat} {w : World} {a : Option Addr} {n c : Nat} {l : List Opc} (h : OpsAt N w (.slice a n c) l) (i : Nat) (p : Opc) (hi : l[i]? = some p) : ∃ g o, a = some ⟨g, o, none⟩ ∧ ∀ j u, (opcC p)[j]? = some u → w.cell? ⟨g, o + i * 6 + j, none⟩ = some u := by
  obtain ⟨a', cap, e, h0 | ⟨g, o, e2, hg, hc⟩⟩ := h
  · have := (List.getElem?_eq_some_iff.1 hi).1; omega
  · obtain ⟨rfl, _, _⟩ := Value.slice.inj e
    exact ⟨g, o, e2, hc i p hi⟩
/-- Where the first loop stands. -/
def OnR (N : Nat) (w : World) (b gb i : Nat) (vs : Value) (W : World) : Prop := ∃ s snt gt, OnM N w b gb (fun _ => False) s snt gt vs W ∧ OnceI i i s snt gt
section
variable {N : Nat} {w0 : World} {b gb : Nat} {X : Nat → Prop} {s : Nt} {snt : List Mg} {gt : List Int} {vs : Value} {W : World}
/-- What is in boxes stays. -/
def BoxK (X : Nat → Prop) (W w' : World) : Prop := ∀ k cs ty, X k → Holds W k cs ty → Holds w' k cs ty
theorem boxK {w' : World} (hk : Keeps (OnG N gb vs X) W w') : BoxK X W w' := fun _ _ _ hx hH => hH.keeps hk (.inr (.inr (.inr hx)))
theorem on_send (h : OnM N w0 b gb X s snt gt vs W) (f t : Int) (bd : ByteArray) (hr : s.l.length < 4096) (hl : s.last < 100000) :
    Calls Try.prog 9 #[.pointer (some ⟨b, 0, none⟩), .int .i64 f, .int .i64 t, .slice (some ⟨W.heap.size, 0, none⟩) 1 1] (W.alloc (.cells #[.string bd] 9)) fun e w' => e = .returned (.int .i64 1) ∧ Hid (OnM N w0 b gb X (addN s f t bd) snt gt vs w' ∧ BoxK X W w') := by
  have e : fitN s [bd] = 1 := by
    unfold fitN
    exact Nat.min_eq_left (by simp; omega)
  refine (in_send h.nin f t [bd] (by simp) (by omega)).mono ?_
  rintro e1 w' ⟨e2, e3⟩
  rw [e] at e2 e3
  exact ⟨e2, h.call e3.out.1 e3.out.2, boxK e3.out.2⟩
theorem on_cut (h : OnM N w0 b gb X s snt gt vs W) (a c : Int) (ha : okI a) (hc : okI c) (hl : s.cuts.length < 100000) :
    Calls Try.prog 10 #[.pointer (some ⟨b, 0, none⟩), .int .i64 a, .int .i64 c] W fun e w' => e = .returned (.tuple #[]) ∧ Hid (OnM N w0 b gb X { s with cuts := cutL s.cuts a c } snt gt vs w' ∧ BoxK X W w') :=
  (in_cut h.nin a c ha hc (by omega)).mono fun _ _ ⟨e1, e2⟩ => ⟨e1, h.call e2.out.1 e2.out.2, boxK e2.out.2⟩
theorem on_heal1 (h : OnM N w0 b gb X s snt gt vs W) (a : Int) (ha : okI a) (hl : s.cuts.length < 100000) :
    Calls Try.prog 13 #[.pointer (some ⟨b, 0, none⟩), .slice (some ⟨W.heap.size, 0, none⟩) 1 1] (W.alloc (.cells #[.int .i64 a] 3)) fun e w' => ∃ k, e = .returned (.int .i64 k) ∧ Hid (OnM N w0 b gb X (healN s [a]) snt gt vs w') :=
  (in_heal1 h.nin a ha (by omega)).mono fun _ _ ⟨k, e1, e2⟩ => ⟨k, e1, h.call e2.out.1 e2.out.2⟩
theorem on_heal (h : OnM N w0 b gb X s snt gt vs W) (hl : s.cuts.length < 100000) :
    Calls Try.prog 13 #[.pointer (some ⟨b, 0, none⟩), .slice none 0 0] W fun e w' => ∃ k, e = .returned (.int .i64 k) ∧ Hid (OnM N w0 b gb X (healN s []) snt gt vs w') :=
  (in_heal h.nin (by omega)).mono fun _ _ ⟨e1, e2⟩ => ⟨_, e1, h.call e2.out.1 e2.out.2⟩
theorem on_take_none (h : OnM N w0 b gb X s snt gt vs W) (hok : OkS s) (p : Int) (hp : pickO s p = none) :
    Calls Try.prog 11 #[.pointer (some ⟨b, 0, none⟩), .int .i64 p] W fun e w' => e = .returned (.tuple #[.agg #[.int .i64 0, .int .i64 0, .int .i64 0, .string ⟨#[]⟩], .bool false]) ∧ Hid (OnM N w0 b gb X s snt gt vs w' ∧ BoxK X W w') :=
  (in_take_none h.nin hok p hp).mono fun _ _ ⟨e1, e2⟩ => ⟨e1, h.call e2.out.1 e2.out.2, boxK e2.out.2⟩
theorem on_take_some (h : OnM N w0 b gb X s snt gt vs W) (hok : OkS s) (p : Int) (hpk : okI p) (i : Nat) (m1 m2 m3 : Int) (m4 : ByteArray) (hp : pickO s p = some (i, (m1, m2, m3, m4))) :
    Calls Try.prog 11 #[.pointer (some ⟨b, 0, none⟩), .int .i64 p] W fun e w' => e = .returned (.tuple #[.agg #[.int .i64 m1, .int .i64 m2, .int .i64 m3, .string m4], .bool true]) ∧ Hid (OnM N w0 b gb X (dropN s i) snt gt vs w' ∧ BoxK X W w') :=
  (in_take_some h.nin hok p hpk i _ hp).mono fun _ _ ⟨e1, e2⟩ => ⟨e1, h.call e2.out.1 e2.out.2, boxK e2.out.2⟩
theorem on_joined (h : OnM N w0 b gb X s snt gt vs W) (a c : Int) (ha : okI a) (hc : okI c) :
    Calls Try.prog 12 #[.pointer (some ⟨b, 0, none⟩), .int .i64 a, .int .i64 c] W fun e w' => e = .returned (.bool (joinedB s.cuts a c)) ∧ Hid (OnM N w0 b gb X s snt gt vs w' ∧ BoxK X W w') :=
  (in_joined h.nin a c ha hc).mono fun _ _ ⟨e1, e2⟩ => ⟨e1, h.below e2.out.2, fun _ _ _ _ hH => hH.below e2.out.2 hH.lt⟩
end
theorem on_start (N : Nat) (w W w' : World) (hs : N ≤ W.heap.size) (hW : Below N w W) (h2 : NIn (fun k => k < W.heap.size) W.heap.size W W.heap.size nt0 w') : OnR N w W.heap.size w'.heap.size 0 (.slice none 0 0) (w'.alloc (.cells (gtV (List.replicate 61 0)).toArray 3)) := by
  have hn : NIn (fun k => k < N) N w W.heap.size nt0 w' := ⟨h2.net.less fun k hk => Nat.lt_of_lt_of_le hk hs, hW.trans (h2.below.mono hs), fun k hk => hk⟩
  have hg := hn.guard (.cells (gtV (List.replicate 61 0)).toArray 3)
  refine ⟨nt0, [], List.replicate 61 0, ⟨hg.less (fun k hk => ?_) (fun _ hk => .inl hk), World.ownsRow_nil _ _ _ _, holds_new w' _ _, hn.size, by simp [Value.ownBlock]⟩, once_start⟩
  rcases hk with q | q | q | q
  · exact .inl q
  · exact .inr q
  · cases q
  · cases q
/-- What came out of w by making new things alone. -/
def Since (w : World) : Type := { W : World // Below w.heap.size w W }
theorem region_quiet_in {P : Program} {id : Nat} {Q : Exit → Act → World → Prop} {a : Act} {w : World} {l : List Oper} (C : World → Prop) (hm : P.follows .mixedOrders = true) (hB : Region.lexB .any l.toArray = true) (hC : C { w with drawn := w.drawn + 1 })
    (h : wpQuiet P l.toArray C (fun a' => ∀ w', C w' → Q .normal a' w') l a) : (Code.region id l.toArray true).wp P Q a w :=
  wp_region_quiet (C := C) hm hB hC (by simpa using h)
/-- What is known where a message was taken: its box, its like in the list, and what Joined tells. -/
theorem once_w {N : Nat} {w0 : World} {b gb : Nat} {X : Nat → Prop} {s : Nt} {snt : List Mg} {gt : List Int} {vs : Value} {w6 : World} {n j : Nat} {m2 m3 : Int} {m4 : ByteArray} (h : OnM N w0 b gb X s snt gt vs w6) (hj : snt[j]? = some ((j : Int) + 1, m2, m3, m4)) (hg : gt[j + 1]? = some 0) (hn : snt.length = n) (hjo : joinedB s.cuts m2 m3 = true) (o2 : okI m2) (o3 : okI m3) :
    ∃ g4 c4, vs = .slice (some ⟨g4, 0, none⟩) n c4 ∧ (∀ W, Below w6.heap.size w6 W → W.cell? ⟨g4, j * 4, none⟩ = some (.int .i64 ((j : Int) + 1)) ∧ W.cell? ⟨g4, j * 4 + 1, none⟩ = some (.int .i64 m2) ∧ W.cell? ⟨g4, j * 4 + 2, none⟩ = some (.int .i64 m3) ∧ W.cell? ⟨g4, j * 4 + 3, none⟩ = some (.string m4)) ∧
      (∀ W, Below w6.heap.size w6 W → Calls Try.prog 12 #[.pointer (some ⟨b, 0, none⟩), .int .i64 m2, .int .i64 m3] W fun e w8 => e = .returned (.bool true) ∧ Below W.heap.size W w8) ∧
      (∀ W, Below w6.heap.size w6 W → W.cell? ⟨gb, j + 1, none⟩ = some (.int .i64 0) ∧ W.frozen? ⟨gb, j + 1, none⟩ = false ∧ Hid (OnM N w0 b gb (fun _ => False) s snt (gt.set (j + 1) 1) vs (W.setCell ⟨gb, j + 1, none⟩ (.int .i64 1)))) := by
  obtain ⟨g4, c4, e, hr⟩ := h.msg j _ hj
  rw [hn] at e
  have hg4 : g4 < w6.heap.size := owns_lt h.row (by rw [e]; rfl)
  refine ⟨g4, c4, e, fun W hW => ?_, fun W hW => ?_, fun W hW => ?_⟩
  · have hc : ∀ o, W.cell? ⟨g4, o, none⟩ = w6.cell? ⟨g4, o, none⟩ := fun o => World.cell?_of_block (w := w6) (hW.block g4 hg4)
    rw [hc, hc, hc, hc]
    exact ⟨hr 0 _ rfl, hr 1 _ rfl, hr 2 _ rfl, hr 3 _ rfl⟩
  · have := joined_any m2 m3 o2 o3 (h.below hW).nin.net
    rw [hjo] at this
    exact this
  · have hM := (h.below hW).less (X' := fun _ => False) (fun k hk => hk.elim)
    obtain ⟨x1, x2⟩ := hM.cell (j + 1) 0 hg
    exact ⟨x1, x2, hM.count (j + 1) 1⟩
end Go.Proofs.Ytmdoamkockoipaa
