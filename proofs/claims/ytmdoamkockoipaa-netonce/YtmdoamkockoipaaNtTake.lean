/- Take (11). -/
import Derived.Test.YtmdoamkockoipaaNtOpen
import Derived.Test.YtmdoamkockoipaaNtDel
import Derived.Laws.ResultCell
namespace Go.Proofs.Ytmdoamkockoipaa
open Go.RowKit Go.Maps

theorem und34 : Try.prog.underlying 34 = some (.struct (Try.prog.fieldsOf 34)) := by kernel_rfl
theorem size34 : (Try.prog.info? 34).map (·.size) = some 4 := by kernel_rfl
def nullM : Mg := (0, 0, 0, ⟨#[]⟩)
theorem res11 {tmps : Array Value} {w : World} {N : Nat} {m : Mg} (h4 : tmps.getD 4 undef = .pointer (some ⟨N, 0, none⟩)) (hH : Holds w N (mgV m) 34) : (results Try.f11 tmps).run Try.prog w = .ok (.tuple #[.agg (mgV m).toArray, tmps.getD 5 undef]) w := by
  rw [results_cell_tmp (p := 4) (u := 5) (ty := 34) (by kernel_rfl), h4]
  have := run_loadVar_row (P := Try.prog) w N 34 34 (mgV m).toArray (0, 0) _ hH und34 rfl size34
  simp [asAddr, this, Result.andThen]
theorem take_nil (p : Int) (w : World) : Calls Try.prog 11 #[.pointer none, .int .i64 p] w fun e w' => e = .returned (.tuple #[.agg (mgV nullM).toArray, .bool false]) ∧ Below w.heap.size w w' := by
  obtain ⟨N, hN⟩ : ∃ N, w.heap.size = N := ⟨_, rfl⟩
  have hH : Holds (w.alloc (.cells (mgV nullM).toArray 34)) N (mgV nullM) 34 := hN ▸ holds_new w _ _
  have hB : Hid (Below w.heap.size w (w.alloc (.cells (mgV nullM).toArray 34))) := (Below.refl _ _).alloc (Nat.le_refl _) _
  rw [hN] at hB ⊢
  go_enter Try.func11, Try.ntmps11
  go_wp2
  exact bodyPost_ret (res11 (N := N) rfl hH) rfl ⟨rfl, hB.out⟩
/-- Integers that a call made. -/
theorem row_nat {w : World} {base : Nat} {v : Value} {l : List Nat} (h : w.ownsRow base 3 1 v l.length (natV l)) (k x : Nat) (hk : l[k]? = some x) : ∃ g cap, v = .slice (some ⟨g, 0, none⟩) l.length cap ∧ w.cell? ⟨g, k, none⟩ = some (.int .i64 (x : Int)) := by
  have hkl := (List.getElem?_eq_some_iff.1 hk).1
  obtain ⟨_, ⟨rfl, h0⟩ | ⟨g, cap, cur, rfl, _, hcur, hle, hcap, hcs, hxs⟩⟩ := h
  · omega
  · refine ⟨g, cap, rfl, ?_⟩
    have h1 : (natV l)[k]? = some (.int .i64 (x : Int)) := by simp [natV, hk]
    rw [← hxs, List.getElem?_take] at h1
    split at h1
    · rw [cell_of_row w g _ cur 3 (0, 0) hcur]
      simpa using h1
    · cases h1
set_option maxHeartbeats 1600000 in
theorem take_none {G : Nat → Prop} {w : World} {b : Nat} {s : Nt} (p : Int) (hok : ∀ m ∈ s.l, okI m.2.1 ∧ okI m.2.2.1) (h0 : openI s = []) (h : NetAt G w b s) :
    Calls Try.prog 11 #[.pointer (some ⟨b, 0, none⟩), .int .i64 p] w fun e w' => e = .returned (.tuple #[.agg (mgV nullM).toArray, .bool false]) ∧ Below w.heap.size w w' := by
  obtain ⟨N, hN⟩ : ∃ N, w.heap.size = N := ⟨_, rfl⟩
  have hH : Holds (w.alloc (.cells (mgV nullM).toArray 34)) N (mgV nullM) 34 := hN ▸ holds_new w _ _
  have hB : Hid (Below N w (w.alloc (.cells (mgV nullM).toArray 34))) := hN ▸ (Below.refl _ _).alloc (Nat.le_refl _) _
  have hO := open_any hok (h.alloc (.cells (mgV nullM).toArray 34))
  rw [h0] at hO
  have hO2 : Hid (Calls Try.prog 21 #[.pointer (some ⟨b, 0, none⟩)] (w.alloc (.cells (mgV nullM).toArray 34)) fun e w' => ∃ a c, e = .returned (.slice a 0 c) ∧ Holds w' N (mgV nullM) 34 ∧ Below N w w') := by
    refine hO.mono ?_
    rintro e w' ⟨v, rfl, q1, q2⟩
    obtain ⟨a, c, rfl⟩ := row_slice q1
    have hsz : N + 1 = (w.alloc (.cells (mgV nullM).toArray 34)).heap.size := by simp [hN]
    exact ⟨a, c, rfl, hH.below q2 (by omega), hB.out.trans (q2.mono (by omega))⟩
  rw [hN]
  clear hO h hH hB h0 hok
  have e0 : w.alloc (.cells (mgV nullM).toArray 34) = w.alloc (.cells #[.int .i64 0, .int .i64 0, .int .i64 0, .string ⟨#[]⟩] 34) := rfl
  rw [e0] at hO2
  clear e0
  go_enter Try.func11, Try.ntmps11
  go_wp2_with (go_at_call 21; refine hO2.out.mono ?_; rintro e w2 ⟨a, c, rfl, h2, b2⟩; clear hO2; have f0 := h2.frozen 0; have f1 := h2.frozen 1; have f2 := h2.frozen 2; have f3 := h2.frozen 3; have d0 := h2.at 0 _ rfl; have d1 := h2.at 1 _ rfl; have d2 := h2.at 2 _ rfl; have d3 := h2.at 3 _ rfl; have HH : Hid (Holds w2 N (mgV nullM) 34) := h2; have HB : Hid (Below N w w2) := b2; clear h2 b2)
  refine bodyPost_ret (res11 (N := N) (m := nullM) rfl ?_) rfl ⟨rfl, ?_⟩
  · exact (((HH.out.set 0 _).set 1 _).set 2 _).set 3 _
  · have hNl := HH.out.lt
    exact (((HB.out.trans ((Upd.refl N w2).setCell 0 _ |>.below (Nat.le_refl _) (by omega))).trans ((Upd.refl N _).setCell 1 _ |>.below (Nat.le_refl _) (by simp; omega))).trans ((Upd.refl N _).setCell 2 _ |>.below (Nat.le_refl _) (by simp; omega))).trans ((Upd.refl N _).setCell 3 _ |>.below (Nat.le_refl _) (by simp; omega))
/-- A box that is written over with a message. -/
theorem box_set {w : World} {N : Nat} {a m : Mg} (h : Holds w N (mgV a) 34) : Holds ((((w.setCell ⟨N, 0, none⟩ (.int .i64 m.1)).setCell ⟨N, 1, none⟩ (.int .i64 m.2.1)).setCell ⟨N, 2, none⟩ (.int .i64 m.2.2.1)).setCell ⟨N, 3, none⟩ (.string m.2.2.2)) N (mgV m) 34 ∧ Upd N w ((((w.setCell ⟨N, 0, none⟩ (.int .i64 m.1)).setCell ⟨N, 1, none⟩ (.int .i64 m.2.1)).setCell ⟨N, 2, none⟩ (.int .i64 m.2.2.1)).setCell ⟨N, 3, none⟩ (.string m.2.2.2)) :=
  ⟨(((h.set 0 _).set 1 _).set 2 _).set 3 _, ((((Upd.refl N w).setCell 0 _).setCell 1 _).setCell 2 _).setCell 3 _⟩
set_option maxHeartbeats 3200000 in
set_option maxRecDepth 100000 in
theorem take_some {G : Nat → Prop} {w : World} {b : Nat} {s : Nt} (p : Int) (hp : okI p) (hok : ∀ m ∈ s.l, okI m.2.1 ∧ okI m.2.2.1) (i : Nat) (m : Mg) (hi : (openI s)[placeN p (openI s).length]? = some i) (hm : s.l[i]? = some m) (h : NetAt G w b s) :
    Calls Try.prog 11 #[.pointer (some ⟨b, 0, none⟩), .int .i64 p] w fun e w' => e = .returned (.tuple #[.agg (mgV m).toArray, .bool true]) ∧ Hid (NetAt G w' b (dropN s i) ∧ Keeps G w w') := by
  obtain ⟨N, hN⟩ : ∃ N, w.heap.size = N := ⟨_, rfl⟩
  have HN : Hid (w.heap.size = N) := hN
  have hG := h.low
  have hil := (List.getElem?_eq_some_iff.1 hm).1
  have hkl := (List.getElem?_eq_some_iff.1 hi).1
  have hol := openI_le s
  have hrm := h.room
  have hH : Holds (w.alloc (.cells (mgV nullM).toArray 34)) N (mgV nullM) 34 := hN ▸ holds_new w _ _
  have hB : Hid (Below N w (w.alloc (.cells (mgV nullM).toArray 34))) := hN ▸ (Below.refl _ _).alloc (Nat.le_refl _) _
  have h1 : NetAt (fun k => G k ∨ k = N) (w.alloc (.cells (mgV nullM).toArray 34)) b s := h.guard ((Below.refl _ _).alloc (Nat.le_refl _) _) (fun k hk => hk.imp id (fun e => by subst e; simp [hN]))
  have hO := open_any hok h1
  have hPl : Hid (∀ W, Calls Try.prog 22 #[.int .i64 p, .int .i64 ((openI s).length : Int)] W fun e w' => e = .returned (.int .i64 ((placeN p (openI s).length : Nat) : Int)) ∧ w' = W) := fun W => place_any p _ (by omega) (by omega) hp W
  obtain ⟨m1, m2, m3, m4⟩ := m
  have hO2 : Hid (Calls Try.prog 21 #[.pointer (some ⟨b, 0, none⟩)] (w.alloc (.cells (mgV nullM).toArray 34)) fun e w1 => ∃ go co, e = .returned (.slice (some ⟨go, 0, none⟩) (openI s).length co) ∧ w1.cell? ⟨go, placeN p (openI s).length, none⟩ = some (.int .i64 (i : Int)) ∧ N < w1.heap.size ∧
      (∃ g c, w1.cell? ⟨b, 0, none⟩ = some (.slice (some ⟨g, 0, none⟩) s.l.length c) ∧ w1.cell? ⟨g, i * 4, none⟩ = some (.int .i64 m1) ∧ w1.cell? ⟨g, i * 4 + 1, none⟩ = some (.int .i64 m2) ∧ w1.cell? ⟨g, i * 4 + 2, none⟩ = some (.int .i64 m3) ∧ w1.cell? ⟨g, i * 4 + 3, none⟩ = some (.string m4)) ∧ Hid (Holds w1 N (mgV nullM) 34 ∧ Below N w w1 ∧ NetAt (fun k => G k ∨ k = N) w1 b s)) := by
    refine hO.mono ?_
    rintro e w1 ⟨v, rfl, q1, q2⟩
    obtain ⟨go, co, rfl, q3⟩ := row_nat q1 _ _ hi
    have hsz : N + 1 = (w.alloc (.cells (mgV nullM).toArray 34)).heap.size := by simp [hN]
    have hnet := h1.below q2
    have hnet2 := hnet
    obtain ⟨_, _, _, v, mv, hHo, hR, _, _⟩ := hnet2
    obtain ⟨g, c, rfl, hrg⟩ := row_msg hR i _ hm
    exact ⟨go, co, rfl, q3, by have := q2.size; omega, ⟨g, c, hHo.at 0 _ rfl, hrg 0 _ rfl, hrg 1 _ rfl, hrg 2 _ rfl, hrg 3 _ rfl⟩, hH.below q2 (by omega), hB.out.trans (q2.mono (by omega)), hnet⟩
  have hRm : Hid (∀ w1, Hid (Holds w1 N (mgV nullM) 34 ∧ Below N w w1 ∧ NetAt (fun k => G k ∨ k = N) w1 b s) → Calls Try.prog 23 #[.pointer (some ⟨b, 0, none⟩), .int .i64 (i : Int)] (w1.alloc (.cells #[.int .i64 m1, .int .i64 m2, .int .i64 m3, .string m4] 34)) fun e w3 => e = .returned (.tuple #[]) ∧ Holds w3 N (mgV nullM) 34 ∧ Holds w3 w1.heap.size (mgV (m1, m2, m3, m4)) 34 ∧ Hid (∀ w4, Upd N w3 w4 → NetAt G w4 b (dropN s i) ∧ Keeps G w w4)) := fun w1 hE => by
    obtain ⟨e1, e2, e3⟩ := hE.out
    have hN1 : N < w1.heap.size := e1.lt
    have hbo : Below w1.heap.size w1 (w1.alloc (.cells (mgV (m1, m2, m3, m4)).toArray 34)) := (Below.refl _ _).alloc (Nat.le_refl _) _
    have hg := e3.guard (G' := fun k => (G k ∨ k = N) ∨ k = w1.heap.size) hbo (fun k hk => hk.imp id (fun e => by subst e; simp))
    refine (remove_any i hil hg).mono ?_
    rintro e w3 ⟨rfl, h3⟩
    refine ⟨rfl, (e1.below hbo hN1).keeps h3.out.2 (.inl (.inr rfl)), (holds_new w1 (mgV (m1, m2, m3, m4)) 34).keeps h3.out.2 (.inr rfl), fun w4 hu => ?_⟩
    have hK4 : Keeps G w3 w4 := Keeps.ofUpd hu (fun q => by have := hG N q; have := HN.out; omega) (fun k hk => h3.out.1.low k (.inl (.inl hk)))
    refine ⟨(h3.out.1.keep hu.size fun k hk hn => hu.block k hk (fun e => hn (.inl (.inr e)))).less fun k hk => .inl (.inl hk), ?_⟩
    have hK1 : Keeps G w w1 := ⟨e2.os, e2.tape, e2.output, e2.size, fun k hk => e2.block k (by have := hG k hk; have := HN.out; omega)⟩
    exact ((hK1.trans (Keeps.ofBelow hbo (fun k hk => e3.low k (.inl hk)))).trans (h3.out.2.mono fun k hk => .inl (.inl hk))).trans hK4
  have e0 : w.alloc (.cells (mgV nullM).toArray 34) = w.alloc (.cells #[.int .i64 0, .int .i64 0, .int .i64 0, .string ⟨#[]⟩] 34) := rfl
  rw [e0] at hO2
  have hin : (0 : Int) ≤ (i : Int) ∧ (i : Int) < (s.l.length : Int) := by omega
  have hi1 : i < s.l.length := hil
  obtain ⟨k, hk⟩ : ∃ k, placeN p (openI s).length = k := ⟨_, rfl⟩
  rw [hk] at hO2 hPl hkl
  obtain ⟨n, hn⟩ : ∃ n, (openI s).length = n := ⟨_, rfl⟩
  rw [hn] at hO2 hPl hkl
  have hn0 : ¬ (n : Int) = 0 := by omega
  have hk1 : (k : Int) < (n : Int) := by omega
  clear e0 hO h hH hB hok hk hn hi hm hG h1 hol hil
  generalize s.l.length = L at *
  go_enter Try.func11, Try.ntmps11
  go_wp2_with (first
    | (go_at_call 21; refine hO2.out.mono ?_; rintro e w1 ⟨go, co, rfl, q1, hN1, ⟨g, c, q2, k0, k1, k2, k3⟩, hE⟩; clear hO2)
    | (go_at_call 22; refine (hPl.out w1).mono ?_; rintro e w2 ⟨rfl, rfl⟩; clear hPl)
    | (go_at_call 23; refine (hRm.out _ hE).mono ?_; rintro e w3 ⟨rfl, r1, r2, r3⟩; clear hRm; have f0 := r1.frozen 0; have f1 := r1.frozen 1; have f2 := r1.frozen 2; have f3 := r1.frozen 3; have d0 := r1.at 0 _ rfl; have d1 := r1.at 1 _ rfl; have d2 := r1.at 2 _ rfl; have d3 := r1.at 3 _ rfl; have t0 := r2.at 0 _ rfl; have t1 := r2.at 1 _ rfl; have t2 := r2.at 2 _ rfl; have t3 := r2.at 3 _ rfl; have HH : Hid (Holds w3 N (mgV nullM) 34) := r1; clear r1 r2))
  obtain ⟨x1, x2⟩ := box_set (m := (m1, m2, m3, m4)) HH.out
  exact bodyPost_ret (res11 (N := N) (m := (m1, m2, m3, m4)) rfl x1) rfl ⟨rfl, r3.out _ x2⟩
end Go.Proofs.Ytmdoamkockoipaa
