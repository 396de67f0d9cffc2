/- Lose (17), where all messages are the node's. -/
import Derived.Test.YtmdoamkockoipaaNtHeal
import Derived.Test.YtmdoamkockoipaaNtDrop
import Derived.Test.YtmdoamkockoipaaNtWaits
namespace Go.Proofs.Ytmdoamkockoipaa
open Go.RowKit Go.Maps

theorem heal_any {G : Nat → Prop} {w : World} {b : Nat} {s : Nt} (v : Value) (q : List Int) (hq : ∀ x ∈ q, okI x) (hql : q.length < 4611686018427387904) (hv : IntsAt w v q) (h : NetAt G w b s) (hcl : s.cuts.length < 4611686018427387904) :
    Calls Try.prog 13 #[.pointer (some ⟨b, 0, none⟩), v] w fun e w' => e = .returned (.int .i64 ((s.cuts.length : Int) - ((healL q s.cuts).length : Int))) ∧ Hid (NetAt G w' b (healN s q) ∧ Keeps G w w') := by
  have h' := h
  obtain ⟨_, _, _, v0, mv0, hH0, _, _, c1, c2, ⟨rfl, c3⟩ | ⟨mb, rfl, _, _⟩⟩ := h'
  · refine (heal_none v q hq hql hv h (hH0.at 2 _ rfl)).mono ?_
    rintro e w' ⟨rfl, hb⟩
    have e1 : healL q s.cuts = s.cuts := by rw [c3]; rfl
    have e2 : healN s q = s := by unfold healN; rw [e1]
    refine ⟨by rw [e1, Int.sub_self], ?_⟩
    rw [e2]
    exact ⟨h.below hb, Keeps.ofBelow hb h.low⟩
  · exact heal_some v q hq hql hv h (hH0.at 2 _ rfl) hcl
theorem lose_nil (a : Int) (w : World) : Calls Try.prog 17 #[.pointer none, .int .i64 a] w fun e w' => e = .returned (.int .i64 0) ∧ Below w.heap.size w w' := by
  go_enter Try.func17, Try.ntmps17
  go_wp2
  go_ret
  exact ⟨rfl, (Below.refl _ _).alloc (Nat.le_refl _) _⟩
/-- Is a message the node's? -/
def ofB (a : Int) (m : Mg) : Bool := (m.2.1 == a) || (m.2.2.1 == a)
theorem clo_any (a : Int) (B : Nat) (m : Mg) (h : ofB a m = true) (w : World) (hc : w.cell? ⟨B, 0, none⟩ = some (.int .i64 a)) : Calls Try.prog 27 #[.agg (mgV m).toArray, .pointer (some ⟨B, 0, none⟩)] w fun e w' => e = .returned (.bool true) ∧ Below w.heap.size w w' := by
  obtain ⟨m1, m2, m3, m4⟩ := m
  have hc1 : (w.alloc (.cells #[.int .i64 m1, .int .i64 m2, .int .i64 m3, .string m4] 34)).cell? ⟨B, 0, none⟩ = some (.int .i64 a) := Go.Lib.cell?_alloc_some _ hc
  have f0 := (holds_new w [.int .i64 m1, .int .i64 m2, .int .i64 m3, .string m4] 34).at 1 _ rfl
  have f1 := (holds_new w [.int .i64 m1, .int .i64 m2, .int .i64 m3, .string m4] 34).at 2 _ rfl
  show Calls Try.prog 27 #[.agg #[.int .i64 m1, .int .i64 m2, .int .i64 m3, .string m4], .pointer (some ⟨B, 0, none⟩)] w _
  by_cases e : m2 = a
  · subst e
    go_enter Try.func27, Try.ntmps27
    go_wp2
    go_ret
    exact ⟨rfl, (Below.refl _ _).alloc (Nat.le_refl _) _⟩
  · have e1 : (m2 == a) = false := beq_eq_false_iff_ne.2 e
    have e2 : m3 = a := by
      simp only [ofB, e1, Bool.false_or] at h
      simpa using h
    subst e2
    clear h
    go_enter Try.func27, Try.ntmps27
    go_wp2
    go_ret
    exact ⟨rfl, (Below.refl _ _).alloc (Nat.le_refl _) _⟩
set_option maxHeartbeats 1600000 in
theorem index_first (a : Int) (B g n cap : Nat) (m : Mg) (h : ofB a m = true) (w : World) (hn : 0 < n) (hn2 : n ≤ 4096) (hc : w.cell? ⟨B, 0, none⟩ = some (.int .i64 a)) (hr : w.rangeAt g 0 (mgV m)) :
    Calls Try.prog 29 #[.slice (some ⟨g, 0, none⟩) n cap, .func (.func 27) #[] #[.pointer (some ⟨B, 0, none⟩)]] w fun e w' => e = .returned (.int .i64 0) ∧ Below w.heap.size w w' := by
  obtain ⟨m1, m2, m3, m4⟩ := m
  have hC : Hid (Calls Try.prog 27 #[.agg #[.int .i64 m1, .int .i64 m2, .int .i64 m3, .string m4], .pointer (some ⟨B, 0, none⟩)] w fun e w' => e = .returned (.bool true) ∧ Below w.heap.size w w') := clo_any a B _ h w hc
  have k0 : w.cell? ⟨g, 0, none⟩ = some (.int .i64 m1) := hr 0 _ rfl
  have k1 : w.cell? ⟨g, 1, none⟩ = some (.int .i64 m2) := hr 1 _ rfl
  have k2 : w.cell? ⟨g, 2, none⟩ = some (.int .i64 m3) := hr 2 _ rfl
  have k3 : w.cell? ⟨g, 3, none⟩ = some (.string m4) := hr 3 _ rfl
  have hnn : (0 : Int) < (n : Int) := by omega
  clear hr hc h
  go_enter Try.func29, Try.ntmps29
  go_wp2
  go_loopw [5, 8] (fun _ c wr => c = .int .i64 0 ∧ wr = w) (fun _ _ _ => 0)
  case atStart => exact ⟨rfl, rfl⟩
  case round =>
    obtain ⟨rfl, rfl⟩ := hrel
    go_wp2_with (go_at_call 27; refine hC.out.mono ?_; rintro e w2 ⟨rfl, h2⟩; clear hC)
    go_ret
    exact ⟨rfl, h2⟩
set_option maxHeartbeats 3200000 in
set_option maxRecDepth 100000 in
theorem deleteAll_any (a : Int) (B g cap : Nat) (l : List Mg) (h : ∀ m ∈ l, ofB a m = true) (w : World) (hn : 0 < l.length) (hn2 : l.length ≤ 4096) (hc : w.cell? ⟨B, 0, none⟩ = some (.int .i64 a)) (hB : B < w.heap.size) (cs : List Value) (hH : Holds w g cs 34) (hcs : cs.length = cap * 4) (hcap : l.length ≤ cap) (hl : cs.take (l.length * 4) = mgF l) :
    Calls Try.prog 26 #[.slice (some ⟨g, 0, none⟩) l.length cap, .func (.func 27) #[] #[.pointer (some ⟨B, 0, none⟩)]] w fun e w' => e = .returned (.slice (some ⟨g, 0, none⟩) 0 cap) ∧ ∃ ds, Holds w' g ds 34 ∧ ds.length = cap * 4 ∧ Upd g w w' := by
  have hrow : ∀ W, Below w.heap.size w W → ∀ i m, l[i]? = some m → W.rangeAt g (i * 4) (mgV m) := fun W hW i m hi j u hu => by
    have h1 := mgF_at l i m hi j u hu
    rw [← hl, List.getElem?_take] at h1
    split at h1
    · rw [(hH.below hW hH.lt).cell]; exact h1
    · cases h1
  obtain ⟨m, hm⟩ : ∃ m, l[0]? = some m := ⟨_, List.getElem?_eq_getElem hn⟩
  have hI : Hid (Calls Try.prog 29 #[.slice (some ⟨g, 0, none⟩) l.length cap, .func (.func 27) #[] #[.pointer (some ⟨B, 0, none⟩)]] w fun e w' => e = .returned (.int .i64 0) ∧ Below w.heap.size w w') := index_first a B g l.length cap m (h m (List.mem_of_getElem? hm)) w hn hn2 hc (by have := hrow w (Below.refl _ _) 0 m hm; simpa using this)
  have HRow : Hid (∀ W, Below w.heap.size w W → ∀ i m, l[i]? = some m → W.rangeAt g (i * 4) (mgV m)) := hrow
  have HCl : Hid (∀ W, Below w.heap.size w W → ∀ i m, l[i]? = some m → Calls Try.prog 27 #[.agg (mgV m).toArray, .pointer (some ⟨B, 0, none⟩)] (W.alloc (.cells (mgV m).toArray 34)) fun e w' => e = .returned (.bool true) ∧ Below (W.alloc (.cells (mgV m).toArray 34)).heap.size (W.alloc (.cells (mgV m).toArray 34)) w') := fun W hW i m hi => clo_any a B m (h m (List.mem_of_getElem? hi)) _ (Go.Lib.cell?_alloc_some _ (by rw [World.cell?_of_block (w := w) (hW.block B hB)]; exact hc))
  have HEnd : Hid (∀ W, Below w.heap.size w W → (∀ ty, (Builtin.clear_ #[26] ty #[.slice (some ⟨g, 0, none⟩) l.length cap]).run Try.prog W = .ok (.tuple #[]) (W.setCells g 0 (zs34 l.length))) ∧ ∃ ds, Holds (W.setCells g 0 (zs34 l.length)) g ds 34 ∧ ds.length = cap * 4 ∧ Upd g w (W.setCells g 0 (zs34 l.length))) := fun W hW => by
    have hHW := hH.below hW hH.lt
    have hT := turned_setCells g (zs34 l.length) 0 W cs hHW (by rw [zs34_len, hcs]; omega)
    refine ⟨clear34 hHW 0 l.length cap hn (by rw [hcs]; omega), _, hT.holds, ?_, ?_⟩
    · rw [overV_len _ _ _ (by rw [zs34_len, hcs]; omega), hcs]
    · exact (Upd.ofBelow hW).trans ⟨hT.os, hT.tape, hT.output, Nat.le_of_eq hT.size.symm, fun k _ hk => hT.others k hk⟩
  clear hrow hH hl hcs h hc hm hB
  generalize hln : l.length = n at *
  go_enter Try.func26, Try.ntmps26
  go_wp2_with (go_at_call 29; refine hI.out.mono ?_; rintro e w1 ⟨rfl, h1⟩; clear hI)
  have H1 : Hid (Below w.heap.size w w1) := h1
  clear h1
  go_loopw [5, 6, 7] (fun x c _ wr => ∃ j : Nat, x = .int .i64 0 ∧ c = .int .i64 (j : Int) ∧ 1 ≤ j ∧ j ≤ n ∧ Hid (Below w.heap.size w wr)) (fun _ c _ _ => n - (intOf c).toNat)
  case atStart => exact ⟨1, rfl, rfl, Nat.le_refl _, by omega, H1⟩
  case round =>
    obtain ⟨j, rfl, rfl, hj1, hj, hB⟩ := hrel
    by_cases hlt : j < n
    · obtain ⟨m1, m2, m3, m4, hm⟩ : ∃ m1 m2 m3 m4, l[j]? = some (m1, m2, m3, m4) := ⟨_, _, _, _, List.getElem?_eq_getElem (by omega)⟩
      have hrg := HRow.out wr hB.out j _ hm
      have k0 : wr.cell? ⟨g, j * 4, none⟩ = some (.int .i64 m1) := hrg 0 _ rfl
      have k1 : wr.cell? ⟨g, j * 4 + 1, none⟩ = some (.int .i64 m2) := hrg 1 _ rfl
      have k2 : wr.cell? ⟨g, j * 4 + 2, none⟩ = some (.int .i64 m3) := hrg 2 _ rfl
      have k3 : wr.cell? ⟨g, j * 4 + 3, none⟩ = some (.string m4) := hrg 3 _ rfl
      have hC : Hid (Calls Try.prog 27 #[.agg #[.int .i64 m1, .int .i64 m2, .int .i64 m3, .string m4], .pointer (some ⟨B, 0, none⟩)] (wr.alloc (.cells #[.int .i64 m1, .int .i64 m2, .int .i64 m3, .string m4] 34)) fun e w' => e = .returned (.bool true) ∧ Hid (Below w.heap.size w w')) := (HCl.out wr hB.out j _ hm).mono fun e w' ⟨e1, e2⟩ => ⟨e1, (hB.out.trans ((Below.refl wr.heap.size wr).alloc (Nat.le_refl _) _ |>.mono hB.out.size)).trans (e2.mono (by have := hB.out.size; simp; omega))⟩
      have hbx := holds_new wr [.int .i64 m1, .int .i64 m2, .int .i64 m3, .string m4] 34
      have t0 := hbx.at 0 _ rfl
      have t1 := hbx.at 1 _ rfl
      have t2 := hbx.at 2 _ rfl
      have t3 := hbx.at 3 _ rfl
      have hjn : (j : Int) < (n : Int) := by omega
      clear hrg hbx hm hB H1
      go_wp2_with (go_at_call 27; refine hC.out.mono ?_; rintro e w2 ⟨rfl, h2⟩; clear hC)
      exact ⟨⟨j + 1, rfl, by simp, by omega, by omega, h2⟩, by simp [intOf]; omega⟩
    · obtain rfl : j = n := by omega
      obtain ⟨e1, e2⟩ := HEnd.out wr hB.out
      have HE : Hid (∃ ds, Holds (wr.setCells g 0 (zs34 j)) g ds 34 ∧ ds.length = cap * 4 ∧ Upd g w (wr.setCells g 0 (zs34 j))) := e2
      generalize wr.setCells g 0 (zs34 j) = w9 at *
      clear e2
      go_wp2
      go_ret
      exact ⟨rfl, HE.out⟩
set_option maxHeartbeats 1600000 in
theorem lose_all {G : Nat → Prop} {w : World} {b : Nat} {s : Nt} (a : Int) (hall : ∀ m ∈ s.l, ofB a m = true) (h0 : 0 < s.l.length) (h : NetAt G w b s) :
    Calls Try.prog 17 #[.pointer (some ⟨b, 0, none⟩), .int .i64 a] w fun e w' => e = .returned (.int .i64 (s.l.length : Int)) ∧ Hid (Keeps G w w') := by
  obtain ⟨N, hN⟩ : ∃ N, w.heap.size = N := ⟨_, rfl⟩
  have hb0 : Below w.heap.size w (w.alloc (.cells #[.int .i64 a] 3)) := (Below.refl _ _).alloc (Nat.le_refl _) _
  have h1 := h.below hb0
  have HN1 : Hid (NetAt G (w.alloc (.cells #[.int .i64 a] 3)) b s) := h1
  have HK : Hid (Keeps G w (w.alloc (.cells #[.int .i64 a] 3))) := Keeps.ofBelow hb0 h.low
  have hroom := h.room
  obtain ⟨hG, hb, hr, v, mv, hH, hR, hg, hC⟩ := h1
  have c0 := hH.at 0 _ rfl
  obtain ⟨_, ⟨rfl, h0'⟩ | ⟨g, cap, cur, rfl, _, hcur, hle, hcap, hcs, hxs⟩⟩ := hR
  · omega
  have hbx := holds_new w [.int .i64 a] 3
  have hD : Hid (Calls Try.prog 26 #[.slice (some ⟨g, 0, none⟩) s.l.length cap, .func (.func 27) #[] #[.pointer (some ⟨N, 0, none⟩)]] (w.alloc (.cells #[.int .i64 a] 3)) fun e w' => e = .returned (.slice (some ⟨g, 0, none⟩) 0 cap) ∧ w'.cell? ⟨b, 0, none⟩ = some (.slice (some ⟨g, 0, none⟩) s.l.length cap) ∧ w'.frozen? ⟨b, 0, none⟩ = false ∧ Holds w' b [.slice (some ⟨g, 0, none⟩) s.l.length cap, .int .i64 (s.last : Int), mv] 46 ∧ Hid (Keeps G w (w'.setCell ⟨b, 0, none⟩ (.slice (some ⟨g, 0, none⟩) 0 cap)))) := by
    refine (deleteAll_any a N g cap s.l hall _ h0 hroom (by rw [← hN]; exact hbx.at 0 _ rfl) (by rw [← hN]; simp) cur.toList (by unfold Holds; simpa using hcur) (by simpa using hcs) hle hxs).mono ?_
    rintro e w' ⟨rfl, ds, q1, q2, q3⟩
    obtain ⟨x0, x1, x2⟩ := net_cut HN1.out c0 (l := []) (by simp) ds q1 q2 (by simp [mgF]) q3
    exact ⟨rfl, x0, x1, hH.upd q3 (fun e => (hg g rfl).2 e.symm), HK.out.trans x2.out.2⟩
  clear hH hcur hxs hcs hC hg hG h hbx hb0
  generalize s.l.length = n at *
  go_enter Try.func17, Try.ntmps17
  go_wp2_with (go_at_call 26; refine hD.out.mono ?_; rintro e w2 ⟨rfl, q1, q2, q3, q4⟩; clear hD; have q5 := (q3.set 0 (.slice (some ⟨g, 0, none⟩) 0 cap)).at 0 _ rfl; clear q3)
  go_ret
  exact ⟨rfl, q4⟩
end Go.Proofs.Ytmdoamkockoipaa
