/- Drop (16), Double (15). -/
import Derived.Test.YtmdoamkockoipaaNtTake
import Derived.Test.YtmdoamkockoipaaNtSend
namespace Go.Proofs.Ytmdoamkockoipaa
open Go.RowKit Go.Maps

theorem drop_nil (p : Int) (w : World) : Calls Try.prog 16 #[.pointer none, .int .i64 p] w fun e w' => e = .returned (.bool false) ∧ w' = w := by
  go_enter Try.func16, Try.ntmps16
  go_wp2
  go_ret
  exact ⟨rfl, rfl⟩
theorem double_nil (p : Int) (w : World) : Calls Try.prog 15 #[.pointer none, .int .i64 p] w fun e w' => e = .returned (.bool false) ∧ w' = w := by
  go_enter Try.func15, Try.ntmps15
  go_wp2
  go_ret
  exact ⟨rfl, rfl⟩
set_option maxHeartbeats 1600000 in
theorem drop_some {G : Nat → Prop} {w : World} {b : Nat} {s : Nt} (p : Int) (hp : okI p) (h0 : 0 < s.l.length) (h : NetAt G w b s) :
    Calls Try.prog 16 #[.pointer (some ⟨b, 0, none⟩), .int .i64 p] w fun e w' => e = .returned (.bool true) ∧ Hid (NetAt G w' b (dropN s (placeN p s.l.length)) ∧ Keeps G w w') := by
  have hP : Hid (∀ W, Calls Try.prog 22 #[.int .i64 p, .int .i64 (s.l.length : Int)] W fun e w' => e = .returned (.int .i64 ((placeN p s.l.length : Nat) : Int)) ∧ w' = W) := fun W => place_any p _ h0 h.room hp W
  have hR : Hid (Calls Try.prog 23 #[.pointer (some ⟨b, 0, none⟩), .int .i64 ((placeN p s.l.length : Nat) : Int)] w fun e w' => e = .returned (.tuple #[]) ∧ Hid (NetAt G w' b (dropN s (placeN p s.l.length)) ∧ Keeps G w w')) := remove_any _ (placeN_lt h0) h
  obtain ⟨hG, hb, hr, v, mv, hH, hRw, hg, hC⟩ := h
  have c0 := hH.at 0 _ rfl
  obtain ⟨a, c, rfl⟩ := row_slice hRw
  clear hRw hH hC hg hG
  generalize placeN p s.l.length = k at *
  generalize s.l.length = n at *
  have hn0 : ¬ (n : Int) = 0 := by omega
  go_enter Try.func16, Try.ntmps16
  go_wp2_with (first
    | (go_at_call 22; refine (hP.out _).mono ?_; rintro e w2 ⟨rfl, rfl⟩; clear hP)
    | (go_at_call 23; refine hR.out.mono ?_; rintro e w3 ⟨rfl, h3⟩; clear hR))
  go_ret
  exact ⟨rfl, h3⟩
theorem double_full {G : Nat → Prop} {w : World} {b : Nat} {s : Nt} (p : Int) (h0 : s.l.length = 4096) (h : NetAt G w b s) :
    Calls Try.prog 15 #[.pointer (some ⟨b, 0, none⟩), .int .i64 p] w fun e w' => e = .returned (.bool false) ∧ w' = w := by
  have hR := room_any h
  rw [h0] at hR
  obtain ⟨hG, hb, hr, v, mv, hH, hRw, hg, hC⟩ := h
  have c0 := hH.at 0 _ rfl
  obtain ⟨a, c, rfl⟩ := row_slice hRw
  rw [h0] at c0
  clear hRw hH hC hg hG hr
  go_enter Try.func15, Try.ntmps15
  go_wp2_with (go_at_call 18; refine hR.mono ?_; rintro e w2 ⟨rfl, rfl⟩; clear hR)
  go_ret
  exact ⟨rfl, rfl⟩
set_option maxHeartbeats 1600000 in
theorem double_some {G : Nat → Prop} {w : World} {b : Nat} {s : Nt} (p : Int) (hp : okI p) (hl : s.l.length < 4096) (hlast : s.last < 4611686018427387904) (m1 m2 m3 : Int) (m4 : ByteArray) (hm : s.l[placeN p s.l.length]? = some (m1, m2, m3, m4)) (h : NetAt G w b s) :
    Calls Try.prog 15 #[.pointer (some ⟨b, 0, none⟩), .int .i64 p] w fun e w' => e = .returned (.bool true) ∧ Hid (NetAt G w' b (addN s m2 m3 m4) ∧ Keeps G w w') := by
  have hR := room_any h
  have hk := (List.getElem?_eq_some_iff.1 hm).1
  have h0 : 0 < s.l.length := by omega
  have hP : Hid (∀ W, Calls Try.prog 22 #[.int .i64 p, .int .i64 (s.l.length : Int)] W fun e w' => e = .returned (.int .i64 ((placeN p s.l.length : Nat) : Int)) ∧ w' = W) := fun W => place_any p _ h0 h.room hp W
  have hA : Hid (∀ w2, Below w.heap.size w w2 → Calls Try.prog 19 #[.pointer (some ⟨b, 0, none⟩), .int .i64 m2, .int .i64 m3, .string m4] w2 fun e w' => e = .returned (.tuple #[]) ∧ Hid (NetAt G w' b (addN s m2 m3 m4) ∧ Keeps G w w')) := fun w2 hb => by
    refine (add_any m2 m3 m4 hl hlast (h.below hb)).mono ?_
    rintro e w' ⟨rfl, h3⟩
    exact ⟨rfl, h3.out.1, (Keeps.ofBelow hb h.low).trans h3.out.2⟩
  obtain ⟨hG, hb, hr, v, mv, hH, hRw, hg, hC⟩ := h
  have c0 := hH.at 0 _ rfl
  obtain ⟨g, c, rfl, hrg⟩ := row_msg hRw _ _ hm
  clear hRw hC hg hG hm
  generalize placeN p s.l.length = k at *
  generalize s.l.length = n at *
  have hn0 : ((n : Int) == 0) = false := beq_eq_false_iff_ne.2 (by omega)
  have hn1 : (4096 - (n : Int) == 0) = false := beq_eq_false_iff_ne.2 (by omega)
  have k0 : w.cell? ⟨g, k * 4, none⟩ = some (.int .i64 m1) := hrg 0 _ rfl
  have k1 : w.cell? ⟨g, k * 4 + 1, none⟩ = some (.int .i64 m2) := hrg 1 _ rfl
  have k2 : w.cell? ⟨g, k * 4 + 2, none⟩ = some (.int .i64 m3) := hrg 2 _ rfl
  have k3 : w.cell? ⟨g, k * 4 + 3, none⟩ = some (.string m4) := hrg 3 _ rfl
  have hkn : (k : Int) < (n : Int) := by omega
  have hbl := hH.lt
  have hgl : g < w.heap.size := by
    rcases Nat.lt_or_ge g w.heap.size with q | q
    · exact q
    · simp [World.cell?, Array.getElem?_eq_none q] at k0
  have x0 : (w.alloc (.cells #[.int .i64 0, .int .i64 0, .int .i64 0, .string ⟨#[]⟩] 34)).cell? ⟨b, 0, none⟩ = _ := (hH.alloc _).at 0 _ rfl
  have bx : Below w.heap.size w (w.alloc (.cells #[.int .i64 0, .int .i64 0, .int .i64 0, .string ⟨#[]⟩] 34)) := (Below.refl _ _).alloc (Nat.le_refl _) _
  have y0 := (World.cell?_of_block (w := w) (bx.block g hgl) : _ = w.cell? ⟨g, k * 4, none⟩).trans k0
  have y1 := (World.cell?_of_block (w := w) (bx.block g hgl) : _ = w.cell? ⟨g, k * 4 + 1, none⟩).trans k1
  have y2 := (World.cell?_of_block (w := w) (bx.block g hgl) : _ = w.cell? ⟨g, k * 4 + 2, none⟩).trans k2
  have y3 := (World.cell?_of_block (w := w) (bx.block g hgl) : _ = w.cell? ⟨g, k * 4 + 3, none⟩).trans k3
  have hA1 : Hid (Calls Try.prog 19 #[.pointer (some ⟨b, 0, none⟩), .int .i64 m2, .int .i64 m3, .string m4] (w.alloc (.cells #[.int .i64 m1, .int .i64 m2, .int .i64 m3, .string m4] 34)).drew fun e w' => e = .returned (.tuple #[]) ∧ Hid (NetAt G w' b (addN s m2 m3 m4) ∧ Keeps G w w')) := hA.out _ ((Below.refl _ _).alloc (Nat.le_refl _) _).drew
  have hbox := holds_new w [.int .i64 m1, .int .i64 m2, .int .i64 m3, .string m4] 34
  have z1 := hbox.at 1 _ rfl
  have z2 := hbox.at 2 _ rfl
  have z3 := hbox.at 3 _ rfl
  clear hrg hH hbox hA bx
  go_enter Try.func15, Try.ntmps15
  go_upto_region 3 with (go_at_call 18; refine hR.mono ?_; rintro e w2 ⟨rfl, e2⟩; rw [e2]; clear hR e2)
  go_region_held3 (fun W => W.cell? ⟨b, 0, none⟩ = some (.slice (some ⟨g, 0, none⟩) n c) ∧ W.cell? ⟨g, k * 4, none⟩ = some (.int .i64 m1) ∧ W.cell? ⟨g, k * 4 + 1, none⟩ = some (.int .i64 m2) ∧ W.cell? ⟨g, k * 4 + 2, none⟩ = some (.int .i64 m3) ∧ W.cell? ⟨g, k * 4 + 3, none⟩ = some (.string m4)) (go_keep) (first | (go_at_call 22; refine (hP.out _).mono ?_; rintro e w' ⟨rfl, rfl⟩))
  all_goals (go_wp2_with (go_at_call 19; refine hA1.out.mono ?_; rintro e w3 ⟨rfl, h3⟩; clear hA1))
  all_goals go_ret
  all_goals exact ⟨rfl, h3⟩
end Go.Proofs.Ytmdoamkockoipaa
