/- How many bytes all files have. -/
import Derived.Test.YthaknjbcmflegaaNames
import Derived.Laws.IdiomRangeMap
namespace Go.Proofs.Ythaknjbcmflegaa
open Go.RowKit Go.Maps Go.WideMaps

theorem used_empty {w : World} {N : Nat} {fs : Fs} {A : List UInt8 → Option Nat} {V : List UInt8 → Value} (hF : FilesAt w N fs A V) (hn : ∀ k, A k = none) : fs = [] := by
  cases fs with
  | nil => rfl
  | cons p r =>
    have : get (p :: r) p.1 = some p.2 := by rw [get, if_pos rfl]
    obtain ⟨b, hb, _⟩ := hF.file p.1 p.2 this
    rw [hn] at hb; cases hb
theorem invK9 (key : Value) (kl : Lit) (h : keyOf Try.prog 9 key = some kl) : ∃ x : List UInt8, key = encStr x := by
  obtain ⟨x, hx, _⟩ := Maps.keyOf_str und9 h
  exact ⟨x, hx⟩
theorem invV56 (v : Value) (y : DataW Unit × List MemPlace) (h : ptrElem v = some y) : ∃ o, v = tokV o := by
  obtain ⟨o, h, _⟩ := ptr_inv h
  exact ⟨o, h⟩
theorem used_le_mem {l : Fs} {k : List UInt8} {f : Fl} (h : get l k = some f) : f.bytes.length ≤ used l := by
  induction l with
  | nil => simp [get] at h
  | cons p r ih =>
    rw [get] at h
    rw [used]
    split at h
    · cases h; omega
    · have := ih h; omega

/-- The step of a range over the map of files. -/
theorem wpList_next_files {A : List UInt8 → Option Nat} (w : World) {ops : Array Oper} {rest : List Oper} {o : Oper} {a : Act} {Q : Exit → Act → World → Prop} (hg : o.guard = none) (it : Operand) (hop : o.op = Op.next it false)
    (b r n : Nat) (D : DataW Unit) (hAt : ∀ k, D.atKey (.string k) .nil = tok (A k)) (hHas : ∀ k, has D (.string k) = (A k).isSome) (left : Lit → Bool) (cnt : Nat) (hit : a.eval it = .pointer (some ⟨r, 0, none⟩)) (h : w.ranges Try.prog 9 ptrElem b r n D left cnt)
    (hDone : cnt = 0 → (∀ kl, left kl = false) → wpList Try.prog ops Q rest (a.put o.dst (.tuple #[.bool false])) w)
    (hMore : ∀ (x : List UInt8) (c : Nat) (w' : World) (cnt' : Nat), left (.string x) = true → A x = some c → w'.ranges Try.prog 9 ptrElem b r n D (fun z => left z && !z.sameKey (.string x)) cnt' → cnt' < cnt →
      w.grownBy w' (some r) → w'.heap.size = w.heap.size → (Instr.entry (.pointer (some ⟨r, 0, none⟩))).run Try.prog w' = .ok (.tuple #[encStr x, .pointer (some ⟨c, 0, none⟩)]) w' → wpList Try.prog ops Q rest (a.put o.dst (.tuple #[.bool true, encStr x, .pointer (some ⟨c, 0, none⟩)])) w') :
    wpList Try.prog ops Q (o :: rest) a w :=
  wpList_next_ranges w hg it hop 9 law9 ptrElem encStr tokV invK9 invV56 b r n D left cnt hit h hDone (fun x c kl y w' cnt' hkey hlk hv hat hrg hlt hgr hsz hen => by
    obtain ⟨x', ex, rfl, _⟩ := Maps.keyOf_str und9 hkey
    obtain rfl : x = x' := encStr_inj ex
    have h1 : A x = c := by
      rw [ptr_tok] at hv
      have h2 := hat .nil
      rw [hAt] at h2
      have h3 : y = (tok c, []) := (Option.some.inj hv).symm
      rw [h3] at h2
      exact tok_inj h2
    have h2 : (A x).isSome = true := by rw [← hHas]; exact has_true_of_atKey hat
    cases c with
    | none => rw [h1] at h2; cases h2
    | some c => exact hMore x c w' cnt' hlk h1 hrg hlt hgr hsz hen)

set_option maxHeartbeats 1600000 in
set_option maxRecDepth 100000 in
theorem used_some (N d : Nat) (S : Dk) (w : World) (h : DiskAt w N d S) : Calls Try.prog 9 #[.pointer (some ⟨d, 0, none⟩)] w fun e w' => e = .returned (.int .i64 (used S.fs : Int)) ∧ Below w.heap.size w w' := by
  obtain ⟨mv, st, A, V, hH, hN, hM, hF, hS⟩ := h
  have c0 := hH.at 0 _ rfl
  rcases hM with ⟨rfl, hn⟩ | ⟨mb, n, D, rfl, hNm, hown, hat, hhas⟩
  · have e : S.fs = [] := used_empty hF hn
    have hu : used S.fs = 0 := by rw [e]; rfl
    rw [hu]
    have hrg := run_range_nilMap (P := Try.prog) w 48 9 56 und48
    have hnx : ∀ ty, (Instr.next (.pointer (some ⟨w.heap.size, 0, none⟩)) false ty).run Try.prog (w.alloc (.mapIter none 0 #[] 0)) = _ := fun ty => run_next_nilMap w ty 0 0 #[]
    clear hF hS hn e hu
    go_enter Try.func9, Try.ntmps9
    go_wp2_with fail
    go_loopw [3] (fun v wr => v = .int .i64 0 ∧ wr = w.alloc (.mapIter none 0 #[] 0)) (fun _ _ => 0)
    case atStart => exact ⟨rfl, rfl⟩
    case round =>
      obtain ⟨rfl, rfl⟩ := hrel
      go_wp2
      go_ret
      exact ⟨rfl, (Below.refl _ _).alloc (Nat.le_refl _) _⟩
  · obtain ⟨H, hHs⟩ : ∃ H, w.heap.size = H := ⟨_, rfl⟩
    have HH : Hid (w.heap.size = H) := hHs
    rw [hHs]
    have hUb := hS.used
    have hRise : Hid (Rising S.fs) := hS.rise
    have hFF : Hid (FilesAt w N S.fs A V) := hF
    have hAt : Hid (∀ k, D.atKey (.string k) .nil = tok (A k)) := hat
    have hHas : Hid (∀ k, has D (.string k) = (A k).isSome) := hhas
    clear hF hat hhas hS
    go_enter Try.func9, Try.ntmps9
    go_wp2_with (first
      | (at_range; refine wpList_range_own _ rfl _ 48 rfl 9 56 law9 und48 ptrElem mb n D rfl hown ?_; intro w0 hrg0 hg0 hs0; rw [HH.out] at hrg0)
      | go_in)
    go_frame
    rw [hHs]
    go_loopw [3] (fun v wr => ∃ left cnt, v = .int .i64 (sumOf (fun k => !left (.string k)) S.fs : Int) ∧ wr.ranges Try.prog 9 ptrElem mb H n D left cnt ∧ Below H w wr) (fun _ wr => wr.rangeLeft mb H)
    case atStart =>
      refine ⟨_, _, ?_, hrg0, ⟨hg0.os, hg0.tape, hg0.output, hg0.size, fun k hk => hg0.block k (by omega) (by simp)⟩⟩
      rw [sumOf_none]
      · rfl
      · intro p hp
        have : has D (.string p.1) = true := by rw [hHas.out, hFF.out.some_iff, mem_get hRise.out hp]; rfl
        rw [this]; rfl
    case round =>
      clear hrg0 hg0 hs0
      obtain ⟨left, cnt, rfl, hrg, hb⟩ := hrel
      go_wp2_with (first
        | (at_next; refine wpList_next_files _ rfl _ rfl mb H n D hAt.out hHas.out _ _ rfl hrg ?_ ?_)
        | go_in)
      · intro _ hl0
        have hfin : Hid (sumOf (fun k => !left (.string k)) S.fs = used S.fs) := sumOf_all _ (fun k => by rw [hl0]; rfl) _
        go_wp2
        go_ret
        exact ⟨by rw [hfin.out]; rfl, hb⟩
      · intro x c w1 cnt1 hlx hAx hrg1 hlt hg1 hs1 hen
        obtain ⟨f, hf⟩ : ∃ f, get S.fs x = some f := by
          cases hg : get S.fs x with
          | none => rw [hFF.out.gone x hg] at hAx; cases hAx
          | some f => exact ⟨f, rfl⟩
        obtain ⟨c', hc', _, hHc, hrc, _⟩ := hFF.out.file x f hf
        obtain rfl : c' = c := by rw [hAx] at hc'; exact (Option.some.inj hc').symm
        have hb1 : Below H w w1 := hb.trans ⟨hg1.os, hg1.tape, hg1.output, hg1.size, fun k hk => hg1.block k (by have := hb.size; have := HH.out; omega) (fun e => by cases e; omega)⟩
        have hcl : c' < H := by have := hHc.lt; have := HH.out; omega
        have hHc1 := hHc.below hb1 hcl
        obtain ⟨sa, sc, hv⟩ := row_form hrc
        rw [hv] at hHc1
        have cc := hHc1.at 0 _ rfl
        have hstep := sumOf_step hRise.out (fun k => !left (.string k)) (fun k => !(left (.string k) && !(Lit.string k).sameKey (.string x))) x f hf (by rw [hlx]; rfl) (by rw [hlx]; simp [Lit.sameKey]) (fun k hk => by simp [Lit.sameKey, hk])
        have hle := sumOf_le (fun k => !(left (.string k) && !(Lit.string k).sameKey (.string x))) S.fs
        have Hstep : Hid (sumOf (fun k => !(left (.string k) && !(Lit.string k).sameKey (.string x))) S.fs = sumOf (fun k => !left (.string k)) S.fs + f.bytes.length) := hstep
        rw [hstep] at hle
        generalize sumOf (fun k => !left (.string k)) S.fs = q at *
        generalize f.bytes.length = fl at *
        clear hstep hHc hHc1 hrc hf hs1 hv
        go_wp2_with (go_at_call 33; refine (size_any c' sa fl sc _ cc).mono ?_; rintro e w2 ⟨rfl, rfl⟩)
        go_roundw
        case rel => exact ⟨_, cnt1, by rw [Hstep.out]; rfl, hrg1, hb1⟩
        case measure => rw [hrg1.left_eq, hrg.left_eq]; exact hlt
end Go.Proofs.Ythaknjbcmflegaa
