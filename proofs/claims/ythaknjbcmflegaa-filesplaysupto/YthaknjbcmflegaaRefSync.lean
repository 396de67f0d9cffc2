/- The document's disk: Sync, of several names. -/
import Derived.Test.YthaknjbcmflegaaRefAppend
import Derived.Test.YthaknjbcmflegaaCrash
import Derived.Laws.OwnMore
namespace Go.Proofs.Ythaknjbcmflegaa
open Go.RowKit Go.Maps Go.WideMaps

def eachR (T : Dk → List UInt8 → Dk) : Dk → List ByteArray → Int × Dk
  | S, [] => (0, S)
  | S, s :: r => if foundE S s = 0 then (if stepE S = 0 then eachR T (T (stepS S) s.data.toList) r else (stepE S, stepS S)) else (foundE S s, S)
/-- Texts below a mark. -/
def LowStrs (w : World) (N : Nat) (a : Option Addr) (ss : List ByteArray) : Prop := ss.length = 0 ∨ ∃ g o, a = some ⟨g, o, none⟩ ∧ g < N ∧ ∀ (i : Nat) (x : ByteArray), ss[i]? = some x → w.cell? ⟨g, o + i, none⟩ = some (.string x)
theorem LowStrs.below {w w' : World} {N : Nat} {a : Option Addr} {ss : List ByteArray} (h : LowStrs w N a ss) (hb : Below N w w') : LowStrs w' N a ss := by
  rcases h with h | ⟨g, o, e, hg, hc⟩
  · exact .inl h
  · exact .inr ⟨g, o, e, hg, fun i x hx => (hb.cell hg).trans (hc i x hx)⟩
theorem LowStrs.strs {w : World} {N : Nat} {a : Option Addr} {ss : List ByteArray} (h : LowStrs w N a ss) (hN : N ≤ w.heap.size) : StrsAt w N a ss := by
  rcases h with h | ⟨g, o, e, hg, hc⟩
  · exact .inl h
  · exact .inr ⟨g, o, e, by omega, .inl hg, hc⟩
def LowInts (w : World) (N : Nat) (a : Option Addr) (ss : List Int) : Prop := ss.length = 0 ∨ ∃ g o, a = some ⟨g, o, none⟩ ∧ g < N ∧ ∀ (i : Nat) (x : Int), ss[i]? = some x → w.cell? ⟨g, o + i, none⟩ = some (.int .i64 x)
theorem LowInts.below {w w' : World} {N : Nat} {a : Option Addr} {ss : List Int} (h : LowInts w N a ss) (hb : Below N w w') : LowInts w' N a ss := by
  rcases h with h | ⟨g, o, e, hg, hc⟩
  · exact .inl h
  · exact .inr ⟨g, o, e, hg, fun i x hx => (hb.cell hg).trans (hc i x hx)⟩
theorem LowInts.ints {w : World} {N : Nat} {a : Option Addr} {ss : List Int} (h : LowInts w N a ss) (hN : N ≤ w.heap.size) : IntsAt w N a ss := by
  rcases h with h | ⟨g, o, e, hg, hc⟩
  · exact .inl h
  · exact .inr ⟨g, o, e, by omega, .inl hg, hc⟩
theorem put_set {fs : Fs} (hr : Rising fs) {i : Nat} {k : List UInt8} {f : Fl} (h : fs[i]? = some (k, f)) (f' : Fl) : put k f' fs = fs.set i (k, f') := by
  obtain ⟨hl, e⟩ := List.getElem?_eq_some_iff.1 h
  have e2 : fs = fs.take i ++ (k, f) :: fs.drop (i + 1) := by
    rw [← e, ← List.drop_eq_getElem_cons hl, List.take_append_drop]
  have h1 := put_mid (f' := f') (by rw [← e2]; exact hr)
  rw [← e2] at h1
  rw [h1, List.set_eq_take_append_cons_drop, if_pos hl]
theorem rowV_set : ∀ (fs : Fs) (i : Nat) (k : List UInt8) (f f' : Fl), fs[i]? = some (k, f) → f'.bytes = f.bytes → rowV (fs.set i (k, f')) = (rowV fs).set (i * 3 + 2) (.int .i64 (f'.firm : Int))
  | [], _, _, _, _, h, _ => by simp at h
  | p :: r, 0, k, f, f', h, e => by
    simp at h
    subst h
    show flV (k, f') ++ rowV r = (flV (k, f) ++ rowV r).set 2 _
    simp [flV, e]
  | p :: r, i + 1, k, f, f', h, e => by
    show flV p ++ rowV (r.set i (k, f')) = (flV p ++ rowV r).set _ _
    rw [rowV_set r i k f f' (by simpa using h) e, List.set_append_right _ _ (by rw [flV_len]; omega)]
    rw [flV_len, show (i + 1) * 3 + 2 - 3 = i * 3 + 2 by omega]
theorem Dk.Good.sync {S : Dk} (h : S.Good) (k : List UInt8) (f : Fl) (hf : get S.fs k = some f) : (syncS S k).Good := by
  have h1 := (h.put k ⟨f.bytes, f.bytes.length⟩ (.inl (by rw [hf]; rfl)) (by
    have hup := used_put h.rise k ⟨f.bytes, f.bytes.length⟩
    rw [lenAt_some hf] at hup
    have := h.used
    simp at hup
    omega) (h.keys _ (get_mem hf)) (Nat.le_refl _))
  rw [syncS, oldF_some hf]; exact h1
/-- A file of the document's disk becomes firm. -/
theorem RefAt.settle {w : World} {N r : Nat} {S : Dk} (h : RefAt w N r S) {i : Nat} {k : List UInt8} {f : Fl} (hf : get S.fs k = some f) (hi : S.fs[i]? = some (k, f)) :
    ∃ g c, w.cell? ⟨r, 0, none⟩ = some (.slice (some ⟨g, 0, none⟩) S.fs.length c) ∧ w.cell? ⟨g, i * 3 + 1, none⟩ = some (.string (strL f.bytes)) ∧ (∃ u, w.cell? ⟨g, i * 3 + 2, none⟩ = some u) ∧ w.frozen? ⟨g, i * 3 + 2, none⟩ = false ∧
      RefAt (w.setCell ⟨g, i * 3 + 2, none⟩ (.int .i64 (f.bytes.length : Int))) N r (syncS S k) ∧ RUpd N w (w.setCell ⟨g, i * 3 + 2, none⟩ (.int .i64 (f.bytes.length : Int))) := by
  have hG := h.good
  obtain ⟨v, hH, hN, hR, _⟩ := h
  have hl := (List.getElem?_eq_some_iff.1 hi).1
  obtain ⟨a, c, rfl, hrow⟩ := row63 hR rfl
  rcases hrow with h0 | ⟨g, rfl, hc⟩
  · omega
  refine ⟨g, c, hH.at 0 _ rfl, hc i _ hi 1 _ rfl, ⟨_, hc i _ hi 2 _ rfl⟩, hR.frozenAt _, ?_, ?_⟩
  · have hne : r ≠ g := fun e => by
      subst e
      rcases hR.2 with ⟨e, _⟩ | ⟨g', cap, cur, e, _, hcur, _⟩
      · cases e
      · simp at e
        obtain ⟨rfl, _⟩ := e
        unfold Holds at hH
        rw [hH] at hcur
        simp at hcur
    refine ⟨.slice (some ⟨g, 0, none⟩) S.fs.length c, ?_, hN, ?_, hG.sync k f hf⟩
    · have : refV (.slice (some ⟨g, 0, none⟩) S.fs.length c) (syncS S k) = refV (.slice (some ⟨g, 0, none⟩) S.fs.length c) S := rfl
      rw [this]
      unfold Holds at hH ⊢
      rw [heap_setCell_other w ⟨g, i * 3 + 2, none⟩ r _ hne]; exact hH
    · have e1 : (syncS S k).fs = S.fs.set i (k, ⟨f.bytes, f.bytes.length⟩) := by
        show put k _ S.fs = _
        rw [oldF_some hf]
        exact put_set hG.rise hi _
      rw [e1, rowV_set S.fs i k f ⟨f.bytes, f.bytes.length⟩ hi rfl, List.length_set]
      exact (hR.stored _ _).1
  · refine ⟨rfl, rfl, rfl, by simp, fun j hj hcj => heap_setCell_other w ⟨g, i * 3 + 2, none⟩ j _ (fun (e : j = g) => ?_)⟩
    subst e
    rcases hR.2 with ⟨e, _⟩ | ⟨g', cap, cur, e, hb, hcur, _⟩
    · cases e
    · simp at e
      obtain ⟨rfl, _⟩ := e
      rcases hcj with hcj | hcj
      · omega
      · exact hcj ⟨_, 63, _, hcur, .inr rfl⟩

theorem drop_atB {ss : List ByteArray} {i : Nat} {p : ByteArray} (h : ss[i]? = some p) : ss.drop i = p :: ss.drop (i + 1) := by
  obtain ⟨hl, e⟩ := List.getElem?_eq_some_iff.1 h
  rw [List.drop_eq_getElem_cons hl, e]
theorem eachR_none {T : Dk → List UInt8 → Dk} {S : Dk} {s : ByteArray} {r : List ByteArray} (h : ¬ foundE S s = 0) : eachR T S (s :: r) = (foundE S s, S) := by rw [eachR, if_neg h]
theorem eachR_out {T : Dk → List UInt8 → Dk} {S : Dk} {s : ByteArray} {r : List ByteArray} (h : foundE S s = 0) (h2 : ¬ stepE S = 0) : eachR T S (s :: r) = (stepE S, stepS S) := by rw [eachR, if_pos h, if_neg h2]
theorem eachR_on {T : Dk → List UInt8 → Dk} {S : Dk} {s : ByteArray} {r : List ByteArray} (h : foundE S s = 0) (h2 : stepE S = 0) : eachR T S (s :: r) = eachR T (T (stepS S) s.data.toList) r := by rw [eachR, if_pos h, if_pos h2]
theorem stepB_of (S : Dk) : (stepE S = 0 → stepB S = true) ∧ (¬ stepE S = 0 → stepB S = false ∧ stepE S = 23) := by
  rcases stepE_cases S with ⟨h1, h2⟩ | ⟨h1, h2⟩
  · exact ⟨fun _ => h1, fun h => absurd h2 h⟩
  · exact ⟨fun h => (by rw [h2] at h; cases h), fun _ => ⟨h1, h2⟩⟩

set_option maxHeartbeats 3200000 in
set_option maxRecDepth 100000 in
theorem rsync_all (N r : Nat) (S : Dk) (ss : List ByteArray) (hss : ∀ s ∈ ss, s.size < 9223372036854775808) (hl : ss.length < 9223372036854775808) (a : Option Addr) (c : Nat) (w : World) (h : RefAt w N r S) (ha : LowStrs w N a ss) :
    Calls Try.prog 26 #[.pointer (some ⟨r, 0, none⟩), .slice a ss.length c] w fun e w' => e = .returned (.int .i64 (eachR syncS S ss).1) ∧ RefAt w' N r (eachR syncS S ss).2 ∧ RUpd N w w' := by
  have hNw := h.lt
  have HA : Hid (∀ W, RUpd N w W → LowStrs W N a ss) := fun W hW => ha.below (hW.below (by omega))
  have HSS : Hid (∀ s ∈ ss, s.size < 9223372036854775808) := hss
  obtain ⟨m, hm⟩ : ∃ m, ss.length = m := ⟨_, rfl⟩
  have M : Hid (ss.length = m) := hm
  obtain ⟨X, hX⟩ : ∃ X, eachR syncS S ss = X := ⟨_, rfl⟩
  have HX : Hid (eachR syncS S ss = X) := hX
  have H0 : Hid (RefAt w N r S) := h
  rw [hX, hm]
  rw [hm] at hl
  clear hss hm hX ha h hNw
  go_enter Try.func26, Try.ntmps26
  go_wp2_with fail
  go_loopw [5] (fun c wr => ∃ (k : Nat) (S' : Dk), k ≤ m ∧ c = .int .i64 (k : Int) ∧ Hid (RefAt wr N r S') ∧ Hid (RUpd N w wr) ∧ Hid (eachR syncS S' (ss.drop k) = X)) (fun c _ => m - (intOf c).toNat)
  case atStart => exact ⟨0, S, by omega, rfl, H0, RUpd.refl _ _, HX.out⟩
  case round =>
    obtain ⟨k, S', hk, rfl, hR, hU, hE⟩ := hrel
    by_cases hlt : k < m
    · obtain ⟨s, hs⟩ : ∃ s, ss[k]? = some s := ⟨ss[k]'(by have := M.out; omega), List.getElem?_eq_getElem _⟩
      have hsz := HSS.out s (List.mem_of_getElem? hs)
      obtain ⟨g, o, rfl, cs⟩ : ∃ g o, a = some ⟨g, o, none⟩ ∧ wr.cell? ⟨g, o + k, none⟩ = some (.string s) := by
        rcases HA.out wr hU.out with h0 | ⟨g, o, e, _, hc⟩
        · have := M.out; omega
        · exact ⟨g, o, e, hc k s hs⟩
      have hcs : Hid (∀ W, RUpd N w W → W.cell? ⟨g, o + k, none⟩ = some (.string s)) := fun W hW => by
        rcases HA.out W hW with h0 | ⟨g', o', e, _, hc⟩
        · have := M.out; omega
        · cases e; exact hc k s hs
      rw [drop_atB hs] at hE
      have hask : Hid (Calls Try.prog 44 #[.pointer (some ⟨r, 0, none⟩), .string s, .bool true] wr fun e w' => e = .returned (.int .i64 (foundE S' s)) ∧ w' = wr) := rask_some N r S' s hsz true wr hR.out
      by_cases h0 : foundE S' s = 0
      · have hst : Hid (Calls Try.prog 55 #[.pointer (some ⟨r, 0, none⟩)] wr fun e w' => e = .returned (.bool (stepB S')) ∧ RefAt w' N r (stepS S') ∧ RUpd N wr w') := rstep_some N r S' wr hR.out
        rw [h0] at hask
        by_cases h1 : stepE S' = 0
        · rw [eachR_on h0 h1] at hE
          rw [(stepB_of S').1 h1] at hst
          obtain ⟨_, _, f, hf⟩ := found_zero h0
          have hf2 : get (stepS S').fs s.data.toList = some f := by rw [stepS_fs]; exact hf
          obtain ⟨i, hi, hai, hfi⟩ := atI_of_some (by have := hR.out.good.rise; rw [← stepS_fs S'] at this; exact this) hf2
          have hat : Hid (∀ W, RefAt W N r (stepS S') → Calls Try.prog 45 #[.pointer (some ⟨r, 0, none⟩), .string s] W fun e w' => e = .returned (.int .i64 (i : Int)) ∧ w' = W) := fun W hW => by
            have := rat_some N r (stepS S') s W hW
            rw [hai] at this; exact this
          have hse : Hid (∀ W, RefAt W N r (stepS S') → ∃ g c, W.cell? ⟨r, 0, none⟩ = some (.slice (some ⟨g, 0, none⟩) (stepS S').fs.length c) ∧ W.cell? ⟨g, i * 3 + 1, none⟩ = some (.string (strL f.bytes)) ∧ (∃ u, W.cell? ⟨g, i * 3 + 2, none⟩ = some u) ∧ W.frozen? ⟨g, i * 3 + 2, none⟩ = false ∧
              RefAt (W.setCell ⟨g, i * 3 + 2, none⟩ (.int .i64 (f.bytes.length : Int))) N r (syncS (stepS S') s.data.toList) ∧ RUpd N W (W.setCell ⟨g, i * 3 + 2, none⟩ (.int .i64 (f.bytes.length : Int)))) := fun W hW => hW.settle hf2 hfi
          have hil : i < (stepS S').fs.length := hi
          generalize (stepS S').fs.length = n at *
          generalize syncS (stepS S') s.data.toList = S2 at *
          generalize stepS S' = S1 at *
          have g1 : (i : Int) < (n : Int) := by omega
          have g2 : (0 : Int) ≤ (i : Int) := by omega
          have g3 : ((i : Int)).toNat = i := by omega
          obtain ⟨B, hB⟩ : ∃ B, strL f.bytes = B := ⟨_, rfl⟩
          have hBs : (f.bytes.length : Int) = (B.size : Int) := by rw [← hB]; rfl
          rw [hB, hBs] at hse
          clear hf hf2 hfi hai h0 h1 hB hBs hi
          go_wp2_with (first
            | (go_at_call 45; refine (hat.out _ h3).mono ?_; rintro e w4 ⟨rfl, rfl⟩; obtain ⟨g4, c4, z0, z1, ⟨zu, z2⟩, z3, z4, z5⟩ := hse.out _ h3; have Z4 : Hid (RefAt (w4.setCell ⟨g4, i * 3 + 2, none⟩ (.int .i64 (B.size : Int))) N r S2) := z4; have Z5 : Hid (RUpd N w4 (w4.setCell ⟨g4, i * 3 + 2, none⟩ (.int .i64 (B.size : Int)))) := z5; clear z4 z5)
            | (go_at_call 44; refine hask.out.mono ?_; rintro e w2 ⟨rfl, rfl⟩)
            | (go_at_call 55; refine hst.out.mono ?_; rintro e w3 ⟨rfl, h3, u3⟩; have cs3 := hcs.out w3 (hU.out.trans u3)))
          go_region
          go_wp2
          exact ⟨⟨k + 1, S2, by omega, rfl, Z4.out.drew, ((hU.out.trans u3).trans Z5.out).drew, hE⟩, by simp; omega⟩
        · rw [eachR_out h0 h1] at hE
          obtain ⟨b1, b2⟩ := (stepB_of S').2 h1
          rw [b1] at hst
          rw [b2] at hE
          have hx : X = (23, stepS S') := hE.out.symm
          generalize stepS S' = S1 at *
          clear h0 h1 b1 b2 hE
          go_wp2_with (first
            | (go_at_call 44; refine hask.out.mono ?_; rintro e w2 ⟨rfl, rfl⟩)
            | (go_at_call 55; refine hst.out.mono ?_; rintro e w3 ⟨rfl, h3, u3⟩))
          go_ret
          rw [hx]
          exact ⟨rfl, h3, hU.out.trans u3⟩
      · rw [eachR_none h0] at hE
        have hx : X = (foundE S' s, S') := hE.out.symm
        have hne : ((foundE S' s) == 0) = false := by simpa using h0
        have hne2 : ((foundE S' s) != 0) = true := by simpa using h0
        generalize foundE S' s = E at *
        clear h0 hE
        go_wp2_with (go_at_call 44; refine hask.out.mono ?_; rintro e w2 ⟨rfl, rfl⟩)
        go_ret
        rw [hx]
        exact ⟨rfl, hR.out, hU.out⟩
    · obtain rfl : k = m := by omega
      have hx : X = (0, S') := by
        have := hE.out
        rw [List.drop_eq_nil_of_le (by have := M.out; omega)] at this
        exact this.symm
      clear hE
      go_wp2
      go_ret
      rw [hx]
      exact ⟨rfl, hR.out, hU.out⟩
end Go.Proofs.Ythaknjbcmflegaa
