/- groupOf (24). -/
import Derived.Test.YtmdoamkockoipaaNtSmall
namespace Go.Proofs.Ytmdoamkockoipaa
open Go.RowKit Go.Maps

theorem take_snoc {α : Type} (l : List α) (i : Nat) (h : i < l.length) : l.take (i + 1) = l.take i ++ [l[i]] := by
  rw [List.take_add_one, List.getElem?_eq_getElem h]; rfl
theorem IntsAt.len {w : World} {v : Value} {q : List Int} (h : IntsAt w v q) : ∃ a cap, v = .slice a q.length cap := by
  obtain ⟨a, cap, rfl, _⟩ := h
  exact ⟨a, cap, rfl⟩
theorem IntsAt.cell {w : World} {a : Option Addr} {n c : Nat} {q : List Int} (h : IntsAt w (.slice a n c) q) (i : Nat) (x : Int) (hi : q[i]? = some x) : ∃ g o, a = some ⟨g, o, none⟩ ∧ w.cell? ⟨g, o + i, none⟩ = some (.int .i64 x) := by
  obtain ⟨a', cap, e, h0 | ⟨g, o, e2, hg, hc⟩⟩ := h
  · have := (List.getElem?_eq_some_iff.1 hi).1; omega
  · obtain ⟨rfl, _, _⟩ := Value.slice.inj e
    exact ⟨g, o, e2, hc i x hi⟩
set_option maxHeartbeats 1600000 in
theorem groupOf_any (v : Value) (q : List Int) (hq : ∀ x ∈ q, okI x) (hql : q.length < 4611686018427387904) (w : World) (h : IntsAt w v q) :
    Calls Try.prog 24 #[v] w fun e w' => e = .returned (.map (some w.heap.size)) ∧ SetAt 3 w' w.heap.size (grpR q) ∧ Below w.heap.size w w' := by
  obtain ⟨ad, cap, rfl⟩ := h.len
  have hI : Hid (IntsAt w (.slice ad q.length cap) q) := h
  clear h
  have hmm := @run_makeMap Try.prog
  have hs0 : Hid (SetAt 3 (w.alloc (.map #[] 0)) w.heap.size (grpR (q.take 0))) := set_made 3 w
  have hb0 : Hid (Below w.heap.size w (w.alloc (.map #[] 0))) := (Below.refl _ _).alloc (Nat.le_refl _) _
  generalize hn : q.length = n at *
  obtain ⟨mb, hmb⟩ : ∃ mb, w.heap.size = mb := ⟨_, rfl⟩
  rw [hmb] at hs0 hb0 ⊢
  go_enter Try.func24, Try.ntmps24
  go_wp2
  have HM : Hid (w.heap.size = mb) := hmb
  clear hmb
  go_loopw [9] (fun c wr => ∃ i : Nat, c = .int .i64 (i : Int) ∧ i ≤ n ∧ Hid (SetAt 3 wr mb (grpR (q.take i))) ∧ Hid (Below mb w wr)) (fun c _ => n - (intOf c).toNat)
  case atStart => exact ⟨0, rfl, Nat.zero_le _, hs0, hb0⟩
  case round =>
    obtain ⟨i, rfl, hi, hS, hB⟩ := hrel
    by_cases hlt : i < n
    · have hI1 : IntsAt wr (.slice ad n cap) q := hI.out.below (HM.out ▸ hB.out)
      obtain ⟨g, o, rfl, hc⟩ := hI1.cell i (q[i]'(by omega)) (List.getElem?_eq_getElem (by omega))
      have hx := hq _ (List.getElem_mem (l := q) (n := i) (by omega))
      obtain ⟨w1, hput, hS1, hU⟩ := hS.out.store law3 und61 (by have := grpR_len (q.take i); rw [List.length_take] at this; unfold maxLen; omega) (key_int hx)
      have hS2 : Hid (SetAt 3 w1 mb (grpR (q.take (i + 1)))) := by rw [take_snoc q i (by omega), grpR_snoc]; exact hS1
      have hB2 : Hid (Below mb w w1) := hB.out.trans (hU.below (Nat.le_refl _) (by have := hB.out.size; have := HM.out; omega))
      generalize q[i]'(by omega) = x at *
      clear hS hS1 hU hB hI1 hs0 hb0 hx
      go_wp2
      exact ⟨⟨i + 1, by simp, by omega, hS2, hB2⟩, by simp [intOf]; omega⟩
    · obtain rfl : i = n := by omega
      go_wp2
      go_ret
      subst hn
      rw [List.take_length] at hS
      exact ⟨rfl, hS.out, hB.out⟩
end Go.Proofs.Ytmdoamkockoipaa
