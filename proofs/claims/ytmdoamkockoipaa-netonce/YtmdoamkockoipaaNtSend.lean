/- Send (9). -/
import Derived.Test.YtmdoamkockoipaaNtAdd
namespace Go.Proofs.Ytmdoamkockoipaa
open Go.RowKit Go.Maps

theorem send_nil (f t : Int) (v : Value) (w : World) : Calls Try.prog 9 #[.pointer none, .int .i64 f, .int .i64 t, v] w fun e w' => e = .returned (.int .i64 0) ∧ w' = w := by
  go_enter Try.func9, Try.ntmps9
  go_wp2
  go_ret
  exact ⟨rfl, rfl⟩
/-- Texts in memory, in a block that is guarded. -/
def StrsIn (G : Nat → Prop) (w : World) (v : Value) (bs : List ByteArray) : Prop :=
  ∃ g o cap, v = .slice (some ⟨g, o, none⟩) bs.length cap ∧ bs.length ≤ cap ∧ G g ∧ ∀ i x, bs[i]? = some x → w.cell? ⟨g, o + i, none⟩ = some (.string x)
theorem StrsIn.keeps {G : Nat → Prop} {w w' : World} {v : Value} {bs : List ByteArray} (h : StrsIn G w v bs) (hk : Keeps G w w') : StrsIn G w' v bs := by
  obtain ⟨g, o, cap, rfl, hc, hg, hx⟩ := h
  exact ⟨g, o, cap, rfl, hc, hg, fun i x hi => by rw [World.cell?_of_block (w := w) (hk.block g hg)]; exact hx i x hi⟩
/-- How many have room. -/
def fitN (s : Nt) (bs : List ByteArray) : Nat := Nat.min bs.length (4096 - s.l.length)
set_option maxHeartbeats 1600000 in
theorem send_any {G : Nat → Prop} {w : World} {b : Nat} {s : Nt} (f t : Int) (v : Value) (bs : List ByteArray) (hbl : bs.length < 4611686018427387904) (hlast : s.last + 4096 < 4611686018427387904) (h : NetAt G w b s) (hs : StrsIn G w v bs) :
    Calls Try.prog 9 #[.pointer (some ⟨b, 0, none⟩), .int .i64 f, .int .i64 t, v] w fun e w' => e = .returned (.int .i64 (fitN s bs : Int)) ∧ Hid (NetAt G w' b (sendN s f t (bs.take (fitN s bs))) ∧ Keeps G w w') := by
  have hroom := room_any h
  have hS0 : Hid (StrsIn G w v bs) := hs
  have hN0 : Hid (NetAt G w b s) := h
  have hr := h.room
  obtain ⟨g, o, cap, rfl, hcap, -, -⟩ := hs
  obtain ⟨m, hm⟩ : ∃ m, fitN s bs = m := ⟨_, rfl⟩
  have hm1 : m ≤ bs.length := by rw [← hm]; exact Nat.min_le_left _ _
  have hm2 : m + s.l.length ≤ 4096 := by
    have : m ≤ 4096 - s.l.length := by rw [← hm]; exact Nat.min_le_right _ _
    omega
  have hm3 : (m : Int) = if (bs.length : Int) < 4096 - (s.l.length : Int) then (bs.length : Int) else 4096 - (s.l.length : Int) := by
    rw [← hm]
    unfold fitN
    rw [show Nat.min bs.length (4096 - s.l.length) = min bs.length (4096 - s.l.length) from rfl]
    split <;> omega
  rw [hm]
  clear hm h
  generalize hn : bs.length = n at *
  generalize hq : s.l.length = q at *
  have HM : Hid ((m : Int) = if (n : Int) < 4096 - (q : Int) then (n : Int) else 4096 - (q : Int)) := hm3
  clear hm3
  rcases Int.lt_trichotomy (n : Int) (4096 - (q : Int)) with hlt | hlt | hlt
  · obtain rfl : m = n := by have := HM.out; rw [if_pos hlt] at this; omega
    clear HM
    go_enter Try.func9, Try.ntmps9
    go_wp2_with (go_at_call 18; refine hroom.mono ?_; rintro e w' ⟨rfl, rfl⟩)
    go_loopw [11, 23] (fun _ c wr => ∃ i : Nat, c = .int .i64 (i : Int) ∧ i ≤ m ∧ Hid (NetAt G wr b (sendN s f t (bs.take i)) ∧ Keeps G w' wr)) (fun _ c _ => m - (intOf c).toNat)
    case atStart => exact ⟨0, rfl, Nat.zero_le _, hN0.out, Keeps.refl _ _⟩
    case round =>
      obtain ⟨i, rfl, hi, hE⟩ := hrel
      by_cases hlt : i < m
      · obtain ⟨g', o', cap', e', -, -, hx⟩ := hS0.out.keeps hE.out.2
        obtain ⟨e1, -, -⟩ := Value.slice.inj e'
        cases e1
        have hc := hx i (bs[i]'(by omega)) (List.getElem?_eq_getElem (by omega))
        obtain ⟨z1, z2, -⟩ := sendN_len f t (bs.take i) s
        have hti : (bs.take i).length = i := by rw [List.length_take]; omega
        have hA := add_any f t (bs[i]'(by omega)) (by omega) (by omega) hE.out.1
        have hst : addN (sendN s f t (bs.take i)) f t (bs[i]'(by omega)) = sendN s f t (bs.take (i + 1)) := by
          rw [take_snoc bs i (by omega), sendN_app]; rfl
        rw [hst] at hA
        have hK : Hid (Keeps G w' wr) := hE.out.2
        generalize bs[i]'(by omega) = x at *
        clear hE hx e' hst z1 z2 hti hN0
        go_wp2_with (go_at_call 19; refine hA.mono ?_; rintro e w2 ⟨rfl, h2⟩; clear hA)
        exact ⟨⟨i + 1, by simp, by omega, h2.out.1, hK.out.trans h2.out.2⟩, by simp [intOf]; omega⟩
      · obtain rfl : i = m := by omega
        go_wp2
        go_ret
        exact ⟨rfl, hE⟩
  · obtain rfl : m = n := by have := HM.out; rw [if_neg (by omega)] at this; omega
    rw [← hlt] at hroom
    clear HM hlt
    go_enter Try.func9, Try.ntmps9
    go_wp2_with (go_at_call 18; refine hroom.mono ?_; rintro e w' ⟨rfl, rfl⟩)
    go_loopw [11, 23] (fun _ c wr => ∃ i : Nat, c = .int .i64 (i : Int) ∧ i ≤ m ∧ Hid (NetAt G wr b (sendN s f t (bs.take i)) ∧ Keeps G w' wr)) (fun _ c _ => m - (intOf c).toNat)
    case atStart => exact ⟨0, rfl, Nat.zero_le _, hN0.out, Keeps.refl _ _⟩
    case round =>
      obtain ⟨i, rfl, hi, hE⟩ := hrel
      by_cases hlt : i < m
      · obtain ⟨g', o', cap', e', -, -, hx⟩ := hS0.out.keeps hE.out.2
        obtain ⟨e1, -, -⟩ := Value.slice.inj e'
        cases e1
        have hc := hx i (bs[i]'(by omega)) (List.getElem?_eq_getElem (by omega))
        obtain ⟨z1, z2, -⟩ := sendN_len f t (bs.take i) s
        have hti : (bs.take i).length = i := by rw [List.length_take]; omega
        have hA := add_any f t (bs[i]'(by omega)) (by omega) (by omega) hE.out.1
        have hst : addN (sendN s f t (bs.take i)) f t (bs[i]'(by omega)) = sendN s f t (bs.take (i + 1)) := by
          rw [take_snoc bs i (by omega), sendN_app]; rfl
        rw [hst] at hA
        have hK : Hid (Keeps G w' wr) := hE.out.2
        generalize bs[i]'(by omega) = x at *
        clear hE hx e' hst z1 z2 hti hN0
        go_wp2_with (go_at_call 19; refine hA.mono ?_; rintro e w2 ⟨rfl, h2⟩; clear hA)
        exact ⟨⟨i + 1, by simp, by omega, h2.out.1, hK.out.trans h2.out.2⟩, by simp [intOf]; omega⟩
      · obtain rfl : i = m := by omega
        go_wp2
        go_ret
        exact ⟨rfl, hE⟩
  · have hmq : 4096 - (q : Int) = (m : Int) := by have := HM.out; rw [if_neg (by omega)] at this; omega
    rw [hmq] at hroom hlt
    clear HM hmq
    go_enter Try.func9, Try.ntmps9
    go_wp2_with (go_at_call 18; refine hroom.mono ?_; rintro e w' ⟨rfl, rfl⟩)
    go_loopw [11, 23] (fun _ c wr => ∃ i : Nat, c = .int .i64 (i : Int) ∧ i ≤ m ∧ Hid (NetAt G wr b (sendN s f t (bs.take i)) ∧ Keeps G w' wr)) (fun _ c _ => m - (intOf c).toNat)
    case atStart => exact ⟨0, rfl, Nat.zero_le _, hN0.out, Keeps.refl _ _⟩
    case round =>
      obtain ⟨i, rfl, hi, hE⟩ := hrel
      by_cases hlt : i < m
      · obtain ⟨g', o', cap', e', -, -, hx⟩ := hS0.out.keeps hE.out.2
        obtain ⟨e1, -, -⟩ := Value.slice.inj e'
        cases e1
        have hc := hx i (bs[i]'(by omega)) (List.getElem?_eq_getElem (by omega))
        obtain ⟨z1, z2, -⟩ := sendN_len f t (bs.take i) s
        have hti : (bs.take i).length = i := by rw [List.length_take]; omega
        have hA := add_any f t (bs[i]'(by omega)) (by omega) (by omega) hE.out.1
        have hst : addN (sendN s f t (bs.take i)) f t (bs[i]'(by omega)) = sendN s f t (bs.take (i + 1)) := by
          rw [take_snoc bs i (by omega), sendN_app]; rfl
        rw [hst] at hA
        have hK : Hid (Keeps G w' wr) := hE.out.2
        generalize bs[i]'(by omega) = x at *
        clear hE hx e' hst z1 z2 hti hN0
        go_wp2_with (go_at_call 19; refine hA.mono ?_; rintro e w2 ⟨rfl, h2⟩; clear hA)
        exact ⟨⟨i + 1, by simp, by omega, h2.out.1, hK.out.trans h2.out.2⟩, by simp [intOf]; omega⟩
      · obtain rfl : i = m := by omega
        go_wp2
        go_ret
        exact ⟨rfl, hE⟩
end Go.Proofs.Ytmdoamkockoipaa
