/- What the document's own ring answers: in, walk, Primaries, Owned; the law's same. -/
import Derived.Test.YtlliijodilnlgaaDoorRgAwake
import Derived.Deep.QuietTactic
import Derived.BigQuiet
namespace Go.Proofs.YtlliijodilnlgaaDoor
open Go.RowKit

set_option maxHeartbeats 1000000 in
theorem in_any (B : Nat) (v : Value) (l : List Int) (x : Int) (w : World) (hv : Ints B w v l) (hl : l.length ≤ 9223372036854775807) :
    Calls Tryd.prog 23 #[v, .int .i64 x] w fun e w' => e = .returned (.bool (l.contains x)) ∧ w' = w := by
  obtain ⟨a, cap, rfl⟩ := hv.len
  have HV : Hid (Ints B w (.slice a l.length cap) l) := hv
  obtain ⟨ln, hln⟩ : ∃ ln, l.length = ln := ⟨_, rfl⟩
  rw [hln] at hl HV ⊢
  have HL : Hid (l.length = ln) := hln
  generalize hc : l.contains x = c
  have HC : Hid (l.contains x = c) := hc
  clear hv hln hc
  go_enter Tryd.func23, Tryd.ntmps23
  go_wp2
  go_loopw [5] (fun c wr => ∃ k : Nat, k ≤ ln ∧ c = .int .i64 (k : Int) ∧ Hid (¬ x ∈ l.take k) ∧ wr = w) (fun c _ => ln - (intOf c).toNat)
  case atStart => exact ⟨0, by omega, rfl, by show ¬ x ∈ l.take 0; simp, rfl⟩
  case round =>
  obtain ⟨k, hk, rfl, HN, rfl⟩ := hrel
  by_cases hlt : k < ln
  · obtain ⟨y, hy⟩ : ∃ y, l[k]? = some y := ⟨_, List.getElem?_eq_getElem (by rw [HL.out]; exact hlt)⟩
    obtain ⟨g, o, rfl, hcell⟩ := HV.out.cell k y hy
    have i0 : (0 : Int) ≤ (k : Int) := by omega
    have i1 : (k : Int) < (ln : Int) := by omega
    by_cases he : y = x
    · subst he
      have ht : c = true := by
        rw [← HC.out]
        simpa using List.mem_of_getElem? hy
      subst ht
      clear hy
      go_wp2
      go_ret
      exact ⟨rfl, rfl⟩
    · have hne : ¬ y = x := he
      have hnb : (y == x) = false := by simpa using he
      have HN2 : Hid (¬ x ∈ l.take (k + 1)) := by
        have h0 := HN.out
        show ¬ x ∈ l.take (k + 1)
        rw [List.take_add_one, hy]
        simp at h0 ⊢
        exact ⟨h0, fun q => hne q.symm⟩
      clear hy
      go_wp2
      exact ⟨⟨k + 1, by omega, by go_num, HN2, trivial⟩, by simp [intOf]; omega⟩
  · have i1 : ¬ (k : Int) < (ln : Int) := by omega
    have hf : c = false := by
      have h0 := HN.out
      rw [List.take_of_length_le (by rw [HL.out]; omega)] at h0
      rw [← HC.out]
      simpa using h0
    subst hf
    go_wp2
    go_ret
    exact ⟨rfl, rfl⟩
end Go.Proofs.YtlliijodilnlgaaDoor
