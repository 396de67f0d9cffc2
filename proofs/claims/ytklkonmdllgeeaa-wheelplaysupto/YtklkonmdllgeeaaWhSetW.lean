/- Set (13). -/
import Derived.Test.YtklkonmdllgeeaaWhSet
namespace Go.Proofs.Ytklkonmdllgeeaa
open Go.RowKit Go.Maps

theorem eqMap_nil (w : World) : (binOp .eql 47 (.map none) (.map none)).run Try.prog w = .ok (.bool true) w := by kernel_rfl
theorem eqMap_some (b : Nat) (w : World) : (binOp .eql 47 (.map (some b)) (.map none)).run Try.prog w = .ok (.bool false) w := by kernel_rfl
/-- Where Set stands behind i names. -/
structure SetR (N b : Nat) (ks : List (List UInt8)) (a : Int) (l : Ts) (t : Nat) (w : World) (i : Nat) (wr : World) : Prop where
  low : N ≤ b
  mem : ∃ mb, N ≤ mb ∧ Holds wr b [.map (some mb), .int .u64 ((t + i : Nat) : Int)] 50 ∧ TmsAt wr mb (setAll a (ks.take i) l t)
  upd : WUpd N b w wr
theorem SetR.frozen {N b : Nat} {ks : List (List UInt8)} {a : Int} {l : Ts} {t : Nat} {w : World} {i : Nat} {wr : World} (h : SetR N b ks a l t w i wr) : wr.frozen? ⟨b, 1, none⟩ = false := by
  obtain ⟨mb, _, hH, _⟩ := h.mem
  exact hH.frozen 1
theorem wupd_own {N b : Nat} {w w' : World} (hb : N ≤ b) (hl : b < w.heap.size) (h : Upd b w w') : WUpd N b w w' :=
  ⟨h.os, h.tape, h.output, h.size, fun g hg => h.block g (by omega) (by omega), fun g _ _ _ hne hg => h.block g (Array.getElem?_eq_some_iff.1 hg).1 hne⟩
theorem names_set {ks : List (List UInt8)} (hk : ∀ k ∈ ks, k.length ≤ maxLen) (a : Int) (l : Ts) (t : Nat) (hl : ∀ x ∈ l, x.1.length ≤ maxLen) : ∀ x ∈ setAll a ks l t, x.1.length ≤ maxLen := by
  induction ks generalizing l t with
  | nil => exact hl
  | cons k ks ih =>
    refine ih (fun j hj => hk j (List.mem_cons_of_mem _ hj)) _ _ fun x hx => ?_
    rcases List.mem_append.1 hx with hx | hx
    · exact hl x (mem_dropT.1 hx).1
    · simp at hx; subst hx; exact hk k (by simp)
theorem SetR.next {N b : Nat} {ks : List (List UInt8)} {a : Int} {l : Ts} {t : Nat} {w : World} {i : Nat} {wr : World} (h : SetR N b ks a l t w i wr) (hf : Fine l t) (hi : i < ks.length) (hk : ∀ k ∈ ks, k.length ≤ maxLen) (hti : t + ks.length < maxLen) {k : List UInt8} (ek : ks[i] = k) :
    ∃ mb, wr.cell? ⟨b, 0, none⟩ = some (.map (some mb)) ∧ wr.cell? ⟨b, 1, none⟩ = some (.int .u64 ((t : Int) + i)) ∧ ∃ w1, (Instr.mapUpdate 47 (.map (some mb)) (.string (strL k)) (.agg #[.string (strL k), .int .i64 a, .int .u64 ((t : Int) + i + 1)])).run Try.prog (wr.setCell ⟨b, 1, none⟩ (.int .u64 ((t : Int) + i + 1))).drew = .ok () w1 ∧ Hid (SetR N b ks a l t w (i + 1) w1) := by
  subst ek
  obtain ⟨mb, hmb, hH, hT⟩ := h.mem
  have hne := map_ne hH hT
  have hH1 : Holds (wr.setCell ⟨b, 1, none⟩ (.int .u64 ((t : Int) + i + 1))).drew b [.map (some mb), .int .u64 ((t + (i + 1) : Nat) : Int)] 50 := by
    have := hH.set 1 (.int .u64 ((t : Int) + i + 1))
    simp only [List.set_cons_succ, List.set_cons_zero] at this
    have e : ((t + (i + 1) : Nat) : Int) = (t : Int) + i + 1 := by omega
    rw [e]
    exact this
  have hT1 : TmsAt (wr.setCell ⟨b, 1, none⟩ (.int .u64 ((t : Int) + i + 1))).drew mb (setAll a (ks.take i) l t) := hT.same (heap_setCell_other wr ⟨b, 1, none⟩ mb _ (fun e => hne e.symm))
  have hF := hf.setAll a (ks.take i)
  have hlt : (ks.take i).length = i := by rw [List.length_take]; omega
  rw [hlt] at hF
  obtain ⟨w1, hr, hT2, hu⟩ := hT1.store hF.nodup (by have := hF.len; omega) ks[i] (hk _ (List.getElem_mem hi)) a (t + i + 1)
  refine ⟨mb, hH.at 0 _ rfl, ?_, w1, ?_, ⟨h.low, ⟨mb, hmb, ?_, ?_⟩, ?_⟩⟩
  · have := hH.at 1 _ rfl
    rw [this]; rfl
  · have e : ((t + i + 1 : Nat) : Int) = (t : Int) + i + 1 := by omega
    rw [e] at hr
    exact hr
  · unfold Holds at *
    rw [hu.block b (Array.getElem?_eq_some_iff.1 hH1).1 hne]; exact hH1
  · rw [take_snoc ks i hi, setAll_snoc, hlt]; exact hT2
  · have hd : WUpd N b wr (wr.setCell ⟨b, 1, none⟩ (.int .u64 ((t : Int) + i + 1))).drew := wupd_own h.low hH.lt ((Upd.refl b wr).setCell 1 _).drew
    exact (h.upd.trans hd).trans (wupd_map hmb hT1 hu)
theorem SetR.done {N b : Nat} {ks : List (List UInt8)} {a : Int} {l : Ts} {t : Nat} {w : World} {wr : World} (h : SetR N b ks a l t w ks.length wr) (hf : Fine l t) (hl : ∀ x ∈ l, x.1.length ≤ maxLen) (hk : ∀ k ∈ ks, k.length ≤ maxLen) : WheelAt N wr b (setAll a ks l t) (t + ks.length) ∧ WUpd N b w wr := by
  obtain ⟨mb, hmb, hH, hT⟩ := h.mem
  rw [List.take_length] at hT
  exact ⟨⟨h.low, hf.setAll a ks, names_set hk a l t hl, _, hH, .inr ⟨mb, rfl, hmb, hT⟩⟩, h.upd⟩
set_option maxRecDepth 100000 in
set_option maxHeartbeats 2000000 in
theorem set_any (N b : Nat) (l : Ts) (t : Nat) (a : Int) (v : Value) (ks : List (List UInt8)) (hk : ∀ k ∈ ks, k.length ≤ maxLen) (hlt : t + ks.length < 4611686018427387904) (w : World) (h : WheelAt N w b l t) (hs : Strs b w v ks) :
    Calls Try.prog 13 #[.pointer (some ⟨b, 0, none⟩), .int .i64 a, v] w fun e w' => e = .returned (.tuple #[]) ∧ WheelAt N w' b (setAll a ks l t) (t + ks.length) ∧ WUpd N b w w' := by
  have hM : maxLen = 9223372036854775807 := rfl
  obtain ⟨ad, cap, rfl⟩ := hs.len
  have hS0 : Hid (Strs b w (.slice ad ks.length cap) ks) := hs
  have hblt := h.lt
  obtain ⟨h1, h2, h3, mv, hH, hm⟩ := h
  have hF : Hid (Fine l t) := h2
  have hL : Hid (∀ x ∈ l, x.1.length ≤ maxLen) := h3
  have c0 := hH.at 0 _ rfl
  have f0 := hH.frozen 0
  clear hs h2 h3
  generalize hn : ks.length = n at *
  rcases hm with ⟨rfl, hl0⟩ | ⟨mb, rfl, hmb, hT⟩
  · have hNw : N ≤ w.heap.size := by omega
    have hu0 : Upd b w (w.setCell ⟨b, 0, none⟩ (.map (some w.heap.size))) := (Upd.refl b w).setCell 0 _
    have hz0 : (w.setCell ⟨b, 0, none⟩ (.map (some w.heap.size))).heap.size = w.heap.size := World.size_setCell ..
    have hR0 : Hid (SetR N b ks a l t w 0 ((w.setCell ⟨b, 0, none⟩ (.map (some w.heap.size))).alloc (.map #[] 0))) := by
      refine ⟨h1, ⟨w.heap.size, hNw, ?_, ?_⟩, ?_⟩
      · have := (hH.set 0 (.map (some w.heap.size))).alloc (.map #[] 0)
        simpa using this
      · rw [hl0]
        have := tms_made (w.setCell ⟨b, 0, none⟩ (.map (some w.heap.size)))
        rw [hz0] at this
        exact this
      · exact (wupd_own h1 hblt hu0).trans (WUpd.ofBelow ((Below.refl _ _).alloc (Nat.le_refl _) _) (by rw [hz0]; exact hNw))
    have heq := eqMap_nil w
    have hmm := @run_makeMap Try.prog
    clear hH hl0
    go_enter Try.func13, Try.ntmps13
    go_wp2
    go_loopw [21] (fun c wr => ∃ i : Nat, c = .int .i64 (i : Int) ∧ i ≤ n ∧ Hid (SetR N b ks a l t w i wr)) (fun c _ => n - (intOf c).toNat)
    case atStart => exact ⟨0, rfl, Nat.zero_le _, hR0⟩
    case round =>
      obtain ⟨i, rfl, hi, hR⟩ := hrel
      by_cases hlt : i < n
      · obtain ⟨g, o, rfl, hc⟩ := (hS0.out.wupd hR.out.upd).cell i (ks[i]'(by omega)) (List.getElem?_eq_getElem (by omega))
        obtain ⟨mq, d0, d1, w1, hput, hR1⟩ := hR.out.next hF.out (by omega) hk (by omega) rfl
        generalize ks[i]'(by omega) = k at *
        have hti : (t : Int) + i < 4611686018427387904 := by omega
        have f1 := hR.out.frozen
        clear hR
        clear c0 f0 hR0
        go_wp2
        go_region
        go_wp2
        exact ⟨⟨i + 1, by simp, by omega, hR1⟩, by simp [intOf]; omega⟩
      · obtain rfl : i = n := by omega
        go_wp2
        refine bodyPost_end (results_none (by kernel_rfl) _ _ _) rfl ?_
        subst hn
        exact ⟨rfl, hR.out.done hF.out hL.out hk⟩
  · have hR0 : Hid (SetR N b ks a l t w 0 w) := ⟨h1, ⟨mb, hmb, hH, hT⟩, WUpd.refl _ _ _⟩
    have heq := eqMap_some mb w
    clear hH hT
    go_enter Try.func13, Try.ntmps13
    go_wp2
    go_loopw [21] (fun c wr => ∃ i : Nat, c = .int .i64 (i : Int) ∧ i ≤ n ∧ Hid (SetR N b ks a l t w i wr)) (fun c _ => n - (intOf c).toNat)
    case atStart => exact ⟨0, rfl, Nat.zero_le _, hR0⟩
    case round =>
      obtain ⟨i, rfl, hi, hR⟩ := hrel
      by_cases hlt : i < n
      · obtain ⟨g, o, rfl, hc⟩ := (hS0.out.wupd hR.out.upd).cell i (ks[i]'(by omega)) (List.getElem?_eq_getElem (by omega))
        obtain ⟨mq, d0, d1, w1, hput, hR1⟩ := hR.out.next hF.out (by omega) hk (by omega) rfl
        generalize ks[i]'(by omega) = k at *
        have hti : (t : Int) + i < 4611686018427387904 := by omega
        have f1 := hR.out.frozen
        clear hR
        clear c0 f0 hR0
        go_wp2
        go_region
        go_wp2
        exact ⟨⟨i + 1, by simp, by omega, hR1⟩, by simp [intOf]; omega⟩
      · obtain rfl : i = n := by omega
        go_wp2
        refine bodyPost_end (results_none (by kernel_rfl) _ _ _) rfl ?_
        subst hn
        exact ⟨rfl, hR.out.done hF.out hL.out hk⟩
end Go.Proofs.Ytklkonmdllgeeaa
