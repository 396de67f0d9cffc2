/- Whether parts fit into the room. -/
import Derived.Test.YthaknjbcmflegaaUsed
namespace Go.Proofs.Ythaknjbcmflegaa
open Go.RowKit Go.Maps Go.WideMaps

def lens : List ByteArray → Nat
  | [] => 0
  | s :: r => s.size + lens r
theorem lens_append (a b : List ByteArray) : lens (a ++ b) = lens a + lens b := by
  induction a with
  | nil => simp [lens]
  | cons s r ih => simp only [List.cons_append, lens, ih]; omega
theorem lens_take (l : List ByteArray) (k : Nat) (s : ByteArray) (h : l[k]? = some s) : lens (l.take (k + 1)) = lens (l.take k) + s.size := by
  rw [List.take_add_one, h, lens_append]
  simp [lens]
theorem lens_take_le (l : List ByteArray) (k : Nat) : lens (l.take k) ≤ lens l := by
  have := lens_append (l.take k) (l.drop k)
  rw [List.take_append_drop] at this
  omega
def fitB (S : Dk) (ps : List ByteArray) : Bool := decide (used S.fs + lens ps ≤ S.room)

set_option maxHeartbeats 1600000 in
set_option maxRecDepth 100000 in
theorem fits_some (N d : Nat) (S : Dk) (ps : List ByteArray) (hps : ∀ s ∈ ps, s.size ≤ 140737488355328) (hl : ps.length < 9223372036854775808) (a : Option Addr) (c : Nat) (w : World) (h : DiskAt w N d S) (ha : StrsAt w N a ps) :
    Calls Try.prog 47 #[.pointer (some ⟨d, 0, none⟩), .slice a ps.length c] w fun e w' => e = .returned (.bool (fitB S ps)) ∧ Below w.heap.size w w' := by
  have hU : Hid (Calls Try.prog 9 #[.pointer (some ⟨d, 0, none⟩)] w.drew fun e w' => e = .returned (.int .i64 (used S.fs : Int)) ∧ Below w.drew.heap.size w.drew w') := used_some N d S w.drew h.drew
  obtain ⟨H, hHs⟩ : ∃ H, w.heap.size = H := ⟨_, rfl⟩
  have HH : Hid (w.heap.size = H) := hHs
  rw [hHs]
  obtain ⟨mv, st, A, V, hH, hN, hM, hF, hS⟩ := h
  have c1 := hH.at 1 _ rfl
  have hdl : Hid (d < w.drew.heap.size) := hH.lt
  have hr := hS.room
  have hu := hS.used
  have hfit : Hid (fitB S ps = decide (used S.fs + lens ps ≤ S.room)) := rfl
  generalize hF1 : fitB S ps = F1 at *
  generalize S.room = R at *
  generalize used S.fs = U at *
  have hw1 : IntKind.i64.wrap ((R : Int) - (U : Int)) = (R : Int) - (U : Int) := by rw [wrap_i64]; omega
  have Hps : Hid (∀ s ∈ ps, s.size ≤ 140737488355328) := hps
  have Ha : Hid (StrsAt w N a ps) := ha
  obtain ⟨m, hm⟩ : ∃ m, ps.length = m := ⟨_, rfl⟩
  have M : Hid (ps.length = m) := hm
  rw [hm] at hl ⊢
  clear hm hps ha hM hF hS hF1 hHs
  go_enter Try.func47, Try.ntmps47
  go_wp2_with fail
  go_region_with (go_at_call 9; refine hU.out.mono ?_; rintro e w2 ⟨rfl, q2⟩; have c1' : w2.cell? ⟨d, 1, none⟩ = some (.int .i64 (R : Int)) := (World.cell?_of_block (q2.block d hdl.out)).trans c1)
  all_goals
    have q2' : Below H w.drew w2 := by have := q2; rw [show w.drew.heap.size = H from HH.out] at this; exact this
    have b2 : Below H w w2 := (Below.refl H w).drew.trans q2'
    clear q2 q2'
    have Ha2 : Hid (StrsAt w2 N a ps) := Ha.out.dupd (DUpd.ofBelow (by rw [HH.out]; exact b2))
    go_wp2_with fail
    go_loopw [5, 17] (fun v c wr => ∃ (k : Nat) (L : Int), k ≤ m ∧ c = .int .i64 (k : Int) ∧ v = .int .i64 L ∧ L = (R : Int) - (U : Int) - (lens (ps.take k) : Int) ∧ -16777216 ≤ L ∧ L ≤ 16777216 ∧ wr = w2) (fun _ c _ => m - (intOf c).toNat)
    case atStart => exact ⟨0, _, by omega, rfl, rfl, by simp [lens], by omega, by omega, rfl⟩
    case round =>
      obtain ⟨k, L, hk, rfl, rfl, hL, hL1, hL2, rfl⟩ := hrel
      have HL : Hid (L = (R : Int) - (U : Int) - (lens (ps.take k) : Int)) := hL
      clear hL
      by_cases hlt : k < m
      · obtain ⟨s, hs⟩ : ∃ s, ps[k]? = some s := ⟨ps[k]'(by have := M.out; omega), List.getElem?_eq_getElem _⟩
        have hsz := Hps.out s (List.mem_of_getElem? hs)
        have hst := lens_take ps k s hs
        rcases Ha2.out with h0 | ⟨g, o, rfl, _, _, hc⟩
        · have := M.out; omega
        have ck := hc k s hs
        have Hst : Hid (lens (ps.take (k + 1)) = lens (ps.take k) + s.size) := hst
        clear hst hc hs
        by_cases hgt : L < (s.size : Int)
        · have Hfin : Hid (F1 = false) := by
            show F1 = false
            rw [hfit.out, decide_eq_false_iff_not]
            have h1 := lens_take_le ps (k + 1)
            have h2 := Hst.out
            have h3 := HL.out
            omega
          go_wp2
          go_ret
          exact ⟨by rw [Hfin.out]; rfl, b2⟩
        · go_wp2
          exact ⟨⟨k + 1, L - (s.size : Int), by omega, rfl, rfl, by rw [Hst.out, HL.out]; omega, by omega, by omega, trivial⟩, by simp; omega⟩
      · have Hfin : Hid (F1 = decide (0 ≤ L)) := by
          show F1 = _
          rw [hfit.out]
          have h3 := HL.out
          rw [List.take_of_length_le (by have := M.out; omega)] at h3
          apply decide_eq_decide.2
          omega
        go_wp2
        go_ret
        exact ⟨by rw [Hfin.out]; rfl, b2⟩
end Go.Proofs.Ythaknjbcmflegaa
