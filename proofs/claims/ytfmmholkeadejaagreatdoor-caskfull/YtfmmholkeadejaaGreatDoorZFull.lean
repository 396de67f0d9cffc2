/- CaskFull (8): the walk. -/
import Derived.Deep.RegionHeld3
import Derived.Test.YtfmmholkeadejaaGreatDoorZCkFull
namespace Go.Proofs.YtfmmholkeadejaaGreatDoor
open Go.RowKit

set_option maxHeartbeats 4000000 in
set_option maxRecDepth 100000 in
theorem caskFull_walk (l : List Ch) (a : Option Addr) (cap : Nat) (room : Int) (hlen : l.length ≤ 9223372036854775807) (w : World) (hT : Tab w.heap.size w) (hl : InC w a l) :
    Calls Tryz.prog 8 #[.slice a l.length cap, .int .i64 room] w fun e w' => e = .returned (.bool true) ∧ Below w.heap.size w w' := by
  have hA : Hid (Calls Tryz.prog 17 #[] w fun e w' => e = .returned (.bool true) ∧ Hid (Below w.heap.size w w')) := awake_any w hT
  obtain ⟨r, hr⟩ : ∃ r, Int.tmod room 9000 = r := ⟨_, rfl⟩
  have hr1 : -9000 < r ∧ r < 9000 := by rw [← hr]; exact ⟨by have := Int.lt_tmod_of_pos room (b := 9000) (by decide); omega, Int.tmod_lt_of_pos room (by decide)⟩
  have hw1 : IntKind.i64.wrap r = r := by simp [IntKind.wrap, IntKind.bits, IntKind.signed]; omega
  have hw2 : IntKind.i64.wrap (-r) = -r := by simp [IntKind.wrap, IntKind.bits, IntKind.signed]; omega
  have h29 : Hid (∀ W n, Hid (Below w.heap.size w W) → Calls Tryz.prog 29 #[.int .i64 n] W fun e w' => e = .returned (.pointer (some ⟨W.heap.size, 0, none⟩)) ∧ Hid (DCur w w' (lo0 w) W.heap.size (newS n))) := fun W n hB => full_new w W hT hB.out n
  have hl : Hid (InC w a l) := hl
  obtain ⟨LN, hLN⟩ : ∃ LN, l.length = LN := ⟨_, rfl⟩
  have hLN : Hid (l.length = LN) := hLN
  rw [hLN.out] at hlen ⊢
  clear hT
  by_cases hneg : r < 0
  · have h16 : Hid (∀ W d, Hid (DCur w W (lo0 w) d (newS (-r))) → Calls Tryz.prog 16 #[.pointer (some ⟨d, 0, none⟩), .string v1B] W fun e w' => ∃ c mb, e = .returned (.tuple #[.pointer (some ⟨c, 0, none⟩), .int .i64 0]) ∧ Hid (FullI w ((lo0 w).with mb) c d mb (roomN (-r)) 0 w')) := fun W d h => full_open h.out rfl
    have hrn : Hid (roomN (-r) ≤ 9000) := by unfold roomN; show _ ≤ _; omega
    go_enter Tryz.func8, Tryz.ntmps8
    go_wp2_with (first
      | (go_at_call 16; refine (h16.out _ _ sn).mono ?_; rintro e w2 ⟨c, mb, rfl, s0⟩)
      | (go_at_call 29; refine (h29.out _ _ sA).mono ?_; rintro e wn ⟨rfl, sn⟩)
      | (go_at_call 17; refine hA.out.mono ?_; rintro e wA ⟨rfl, sA⟩))
    obtain ⟨Db, hDb⟩ : ∃ Db, wA.heap.size = Db := ⟨_, rfl⟩
    rw [hDb] at s0 ⊢
    clear hA h29 h16 hr hr1 hw1 hw2 sn hDb sA hneg
    go_loopw [10] (fun p wr => ∃ i : Nat, i ≤ 40 ∧ i ≤ LN ∧ p = .int .i64 (i : Int) ∧ Hid (FullI w ((lo0 w).with mb) c Db mb (roomN (-r)) i wr)) (fun p _ => LN - (intOf p).toNat)
    case atStart => exact ⟨0, by omega, by omega, rfl, s0⟩
    case round =>
      obtain ⟨i, hi, hiL, rfl, hI⟩ := hrel
      clear s0
      rcases Nat.lt_or_ge i LN with hlt | hge
      · rcases Nat.lt_or_ge i 40 with h40 | h40
        · have hlen' := hLN.out
          obtain ⟨ch, hch⟩ : ∃ ch, l[i]? = some ch := ⟨_, List.getElem?_eq_getElem (by omega)⟩
          obtain ⟨b, o, rfl, hb, hcells⟩ := hl.out (fun e => by rw [e] at hch; simp at hch)
          obtain ⟨S, K, chs, q1, q2, q3, q4, q5, q6⟩ := hI.out
          have hBw := q1.bel
          obtain ⟨E, hE1, hE2⟩ := full_put q1 q2 q3 q4 q5 q6 (by omega) ch.k ch.v
          have hcb : Hid (∀ W, Below w.heap.size w W → W.cell? ⟨b, o + i * 3, none⟩ = some (.string ch.k) ∧ W.cell? ⟨b, o + i * 3 + 1, none⟩ = some (.string ch.v)) := fun W hB => by
            obtain ⟨c1, c2, _⟩ := hcells i ch hch
            exact ⟨(hB.cell (p := ⟨b, o + i * 3, none⟩) hb).trans c1, (hB.cell (p := ⟨b, o + i * 3 + 1, none⟩) hb).trans c2⟩
          have hcl : Hid (∀ W u, Hid (FullR w ((lo0 w).with mb) c Db mb S K W u) → W.cell? ⟨b, o + i * 3, none⟩ = some (.string ch.k) ∧ W.cell? ⟨b, o + i * 3 + 1, none⟩ = some (.string ch.v)) := fun W u hW => by
            have hB := hW.out.1.bel
            obtain ⟨c1, c2, _⟩ := hcells i ch hch
            exact ⟨(hB.cell (p := ⟨b, o + i * 3, none⟩) hb).trans c1, (hB.cell (p := ⟨b, o + i * 3 + 1, none⟩) hb).trans c2⟩
          have h23 : Hid (Calls Tryz.prog 23 #[.pointer (some ⟨c, 0, none⟩)] wr fun e w' => ∃ a n q, e = .returned (.slice a n q) ∧ Hid (FullR w ((lo0 w).with mb) c Db mb S K w' (.slice a n q))) := full_fold q1
          have g1 : (i : Int) < (LN : Int) := by omega
          have g2 : (0 : Int) ≤ (i : Int) := by omega
          have g3 : (i : Int) < 40 := by omega
          have g4 : IntKind.i64.wrap ((i : Int) + 1) = (i : Int) + 1 := by simp [IntKind.wrap, IntKind.bits, IntKind.signed]; omega
          clear hcells hb hch q1 q2 q3 q4 q5 q6 hBw hI hlen'
          by_cases hE : E = 22
          · have h18 : Hid (∀ W u, Hid (FullR w ((lo0 w).with mb) c Db mb S K W u) → Calls Tryz.prog 18 #[.pointer (some ⟨c, 0, none⟩), .string ch.k, .string ch.v] W fun e w' => e = .returned (.int .i64 22) ∧ Hid (FullX w ((lo0 w).with mb) c Db mb (roomN (-r)) (i + 1) chs w' u)) := fun W u h => by have := hE2 hE W u h.out; rw [hE] at this; exact this
            have h23b : Hid (∀ W v, Hid (FullX w ((lo0 w).with mb) c Db mb (roomN (-r)) (i + 1) chs W v) → Calls Tryz.prog 23 #[.pointer (some ⟨c, 0, none⟩)] W fun e w' => ∃ a n q, e = .returned (.slice a n q) ∧ Hid (FullX w ((lo0 w).with mb) c Db mb (roomN (-r)) (i + 1) chs w' v ∧ w'.ownsRow w.heap.size 103 2 (.slice a n q) (kvL (kvOf chs)).length (cellsP (kvL (kvOf chs))))) := fun W v h => full_fold2 h.out
            have h32 : Hid (∀ W u v, Hid (FullX w ((lo0 w).with mb) c Db mb (roomN (-r)) (i + 1) chs W v ∧ W.ownsRow w.heap.size 103 2 u (kvL (kvOf chs)).length (cellsP (kvL (kvOf chs)))) → Calls Tryz.prog 32 #[u, v] W fun e w' => e = .returned (.bool true) ∧ Hid (FullX w ((lo0 w).with mb) c Db mb (roomN (-r)) (i + 1) chs w' v)) := fun W u v h => full_same (by omega) h.out.1 h.out.2
            have h28 : Hid (∀ W v, Hid (FullX w ((lo0 w).with mb) c Db mb (roomN (-r)) (i + 1) chs W v) → Calls Tryz.prog 28 #[.pointer (some ⟨c, 0, none⟩)] W fun e w' => e = .returned (.bool false) ∧ w' = W) := fun W v h => full_broken h.out
            clear hE1 hE2 hE
            go_wp2_with (go_at_call 23; refine h23.out.mono ?_; rintro e w2 ⟨a2, n2, q2, rfl, s2⟩; obtain ⟨k1, k2⟩ := hcl.out _ _ s2)
            have s2d : Hid (FullR w ((lo0 w).with mb) c Db mb S K w2.drew (.slice a2 n2 q2)) := s2.out.drew
            go_region_held3 (fun w' => w'.cell? ⟨b, o + i * 3, none⟩ = some (.string ch.k) ∧ w'.cell? ⟨b, o + i * 3 + 1, none⟩ = some (.string ch.v)) (go_keep) (first | (go_at_call 18; refine (h18.out _ _ s2d).mono ?_; rintro e w3 ⟨rfl, s3⟩; obtain ⟨m1, m2⟩ := hcb.out w3 s3.out.bel))
            go_wp2_with (first
              | (go_at_call 28; refine (h28.out _ _ s5).mono ?_; rintro e w6 ⟨rfl, e1⟩; rw [e1]; clear e1)
              | (go_at_call 32; refine (h32.out _ _ _ s4).mono ?_; rintro e w5 ⟨rfl, s5⟩)
              | (go_at_call 23; refine (h23b.out _ _ s3).mono ?_; rintro e w4 ⟨a4, n4, q4, rfl, s4⟩))
            go_roundw
            case rel => exact ⟨i + 1, by omega, by omega, by simp, s5.out.on⟩
            case measure => simp; omega
          · have h18 : Hid (∀ W u, Hid (FullR w ((lo0 w).with mb) c Db mb S K W u) → Calls Tryz.prog 18 #[.pointer (some ⟨c, 0, none⟩), .string ch.k, .string ch.v] W fun e w' => e = .returned (.int .i64 E) ∧ Hid (FullI w ((lo0 w).with mb) c Db mb (roomN (-r)) (i + 1) w')) := fun W u h => hE1 hE W u h.out
            clear hE1 hE2
            go_wp2_with (go_at_call 23; refine h23.out.mono ?_; rintro e w2 ⟨a2, n2, q2, rfl, s2⟩; obtain ⟨k1, k2⟩ := hcl.out _ _ s2)
            have s2d : Hid (FullR w ((lo0 w).with mb) c Db mb S K w2.drew (.slice a2 n2 q2)) := s2.out.drew
            go_region_held3 (fun w' => w'.cell? ⟨b, o + i * 3, none⟩ = some (.string ch.k) ∧ w'.cell? ⟨b, o + i * 3 + 1, none⟩ = some (.string ch.v)) (go_keep) (first | (go_at_call 18; refine (h18.out _ _ s2d).mono ?_; rintro e w3 ⟨rfl, s3⟩; obtain ⟨m1, m2⟩ := hcb.out w3 s3.out.bel))
            have hE3 : (E == 22) = false := beq_eq_false_iff_ne.2 hE
            go_wp2
            go_roundw
            case rel => exact ⟨i + 1, by omega, by omega, by simp, s3⟩
            case measure => simp; omega
        · obtain rfl : i = 40 := by omega
          have g1 : (40 : Int) < (LN : Int) := by omega
          have h38 : Hid (∀ W, Hid (FullI w ((lo0 w).with mb) c Db mb (roomN (-r)) 40 W) → Calls Tryz.prog 38 #[.pointer (some ⟨Db, 0, none⟩), .int .i64 1048576] W fun e w' => e = .returned (.tuple #[]) ∧ Hid (FullE w ((lo0 w).with mb) c Db mb w')) := fun W h => full_limit h.out hrn.out (by omega)
          have h18 : Hid (∀ W, Hid (FullE w ((lo0 w).with mb) c Db mb W) → Calls Tryz.prog 18 #[.pointer (some ⟨c, 0, none⟩), .string moreB, .string roomS] W fun e w' => e = .returned (.int .i64 0) ∧ Hid (FullZ w ((lo0 w).with mb) c Db mb w')) := fun W h => full_last h.out
          have h15 : Hid (∀ W, Hid (FullZ w ((lo0 w).with mb) c Db mb W) → Calls Tryz.prog 15 #[.pointer (some ⟨c, 0, none⟩), .string moreB] W fun e w' => e = .returned (.tuple #[.string roomS, .int .i64 0]) ∧ Hid (Below w.heap.size w w')) := fun W h => full_get h.out
          go_wp2_with (first
            | (go_at_call 15; refine (h15.out _ z2).mono ?_; rintro e w5 ⟨rfl, z3⟩)
            | (go_at_call 18; refine (h18.out _ z1).mono ?_; rintro e w4 ⟨rfl, z2⟩)
            | (go_at_call 38; refine (h38.out _ hI).mono ?_; rintro e w3 ⟨rfl, z1⟩))
          go_ret
          exact ⟨rfl, z3.out⟩
      · obtain rfl : i = LN := by omega
        have h38 : Hid (∀ W, Hid (FullI w ((lo0 w).with mb) c Db mb (roomN (-r)) i W) → Calls Tryz.prog 38 #[.pointer (some ⟨Db, 0, none⟩), .int .i64 1048576] W fun e w' => e = .returned (.tuple #[]) ∧ Hid (FullE w ((lo0 w).with mb) c Db mb w')) := fun W h => full_limit h.out hrn.out (by omega)
        have h18 : Hid (∀ W, Hid (FullE w ((lo0 w).with mb) c Db mb W) → Calls Tryz.prog 18 #[.pointer (some ⟨c, 0, none⟩), .string moreB, .string roomS] W fun e w' => e = .returned (.int .i64 0) ∧ Hid (FullZ w ((lo0 w).with mb) c Db mb w')) := fun W h => full_last h.out
        have h15 : Hid (∀ W, Hid (FullZ w ((lo0 w).with mb) c Db mb W) → Calls Tryz.prog 15 #[.pointer (some ⟨c, 0, none⟩), .string moreB] W fun e w' => e = .returned (.tuple #[.string roomS, .int .i64 0]) ∧ Hid (Below w.heap.size w w')) := fun W h => full_get h.out
        go_wp2_with (first
          | (go_at_call 15; refine (h15.out _ z2).mono ?_; rintro e w5 ⟨rfl, z3⟩)
          | (go_at_call 18; refine (h18.out _ z1).mono ?_; rintro e w4 ⟨rfl, z2⟩)
          | (go_at_call 38; refine (h38.out _ hI).mono ?_; rintro e w3 ⟨rfl, z1⟩))
        go_ret
        exact ⟨rfl, z3.out⟩
  · have h16 : Hid (∀ W d, Hid (DCur w W (lo0 w) d (newS (r))) → Calls Tryz.prog 16 #[.pointer (some ⟨d, 0, none⟩), .string v1B] W fun e w' => ∃ c mb, e = .returned (.tuple #[.pointer (some ⟨c, 0, none⟩), .int .i64 0]) ∧ Hid (FullI w ((lo0 w).with mb) c d mb (roomN (r)) 0 w')) := fun W d h => full_open h.out rfl
    have hrn : Hid (roomN (r) ≤ 9000) := by unfold roomN; show _ ≤ _; omega
    go_enter Tryz.func8, Tryz.ntmps8
    go_wp2_with (first
      | (go_at_call 16; refine (h16.out _ _ sn).mono ?_; rintro e w2 ⟨c, mb, rfl, s0⟩)
      | (go_at_call 29; refine (h29.out _ _ sA).mono ?_; rintro e wn ⟨rfl, sn⟩)
      | (go_at_call 17; refine hA.out.mono ?_; rintro e wA ⟨rfl, sA⟩))
    obtain ⟨Db, hDb⟩ : ∃ Db, wA.heap.size = Db := ⟨_, rfl⟩
    rw [hDb] at s0 ⊢
    clear hA h29 h16 hr hr1 hw1 hw2 sn hDb sA hneg
    go_loopw [10] (fun p wr => ∃ i : Nat, i ≤ 40 ∧ i ≤ LN ∧ p = .int .i64 (i : Int) ∧ Hid (FullI w ((lo0 w).with mb) c Db mb (roomN (r)) i wr)) (fun p _ => LN - (intOf p).toNat)
    case atStart => exact ⟨0, by omega, by omega, rfl, s0⟩
    case round =>
      obtain ⟨i, hi, hiL, rfl, hI⟩ := hrel
      clear s0
      rcases Nat.lt_or_ge i LN with hlt | hge
      · rcases Nat.lt_or_ge i 40 with h40 | h40
        · have hlen' := hLN.out
          obtain ⟨ch, hch⟩ : ∃ ch, l[i]? = some ch := ⟨_, List.getElem?_eq_getElem (by omega)⟩
          obtain ⟨b, o, rfl, hb, hcells⟩ := hl.out (fun e => by rw [e] at hch; simp at hch)
          obtain ⟨S, K, chs, q1, q2, q3, q4, q5, q6⟩ := hI.out
          have hBw := q1.bel
          obtain ⟨E, hE1, hE2⟩ := full_put q1 q2 q3 q4 q5 q6 (by omega) ch.k ch.v
          have hcb : Hid (∀ W, Below w.heap.size w W → W.cell? ⟨b, o + i * 3, none⟩ = some (.string ch.k) ∧ W.cell? ⟨b, o + i * 3 + 1, none⟩ = some (.string ch.v)) := fun W hB => by
            obtain ⟨c1, c2, _⟩ := hcells i ch hch
            exact ⟨(hB.cell (p := ⟨b, o + i * 3, none⟩) hb).trans c1, (hB.cell (p := ⟨b, o + i * 3 + 1, none⟩) hb).trans c2⟩
          have hcl : Hid (∀ W u, Hid (FullR w ((lo0 w).with mb) c Db mb S K W u) → W.cell? ⟨b, o + i * 3, none⟩ = some (.string ch.k) ∧ W.cell? ⟨b, o + i * 3 + 1, none⟩ = some (.string ch.v)) := fun W u hW => by
            have hB := hW.out.1.bel
            obtain ⟨c1, c2, _⟩ := hcells i ch hch
            exact ⟨(hB.cell (p := ⟨b, o + i * 3, none⟩) hb).trans c1, (hB.cell (p := ⟨b, o + i * 3 + 1, none⟩) hb).trans c2⟩
          have h23 : Hid (Calls Tryz.prog 23 #[.pointer (some ⟨c, 0, none⟩)] wr fun e w' => ∃ a n q, e = .returned (.slice a n q) ∧ Hid (FullR w ((lo0 w).with mb) c Db mb S K w' (.slice a n q))) := full_fold q1
          have g1 : (i : Int) < (LN : Int) := by omega
          have g2 : (0 : Int) ≤ (i : Int) := by omega
          have g3 : (i : Int) < 40 := by omega
          have g4 : IntKind.i64.wrap ((i : Int) + 1) = (i : Int) + 1 := by simp [IntKind.wrap, IntKind.bits, IntKind.signed]; omega
          clear hcells hb hch q1 q2 q3 q4 q5 q6 hBw hI hlen'
          by_cases hE : E = 22
          · have h18 : Hid (∀ W u, Hid (FullR w ((lo0 w).with mb) c Db mb S K W u) → Calls Tryz.prog 18 #[.pointer (some ⟨c, 0, none⟩), .string ch.k, .string ch.v] W fun e w' => e = .returned (.int .i64 22) ∧ Hid (FullX w ((lo0 w).with mb) c Db mb (roomN (r)) (i + 1) chs w' u)) := fun W u h => by have := hE2 hE W u h.out; rw [hE] at this; exact this
            have h23b : Hid (∀ W v, Hid (FullX w ((lo0 w).with mb) c Db mb (roomN (r)) (i + 1) chs W v) → Calls Tryz.prog 23 #[.pointer (some ⟨c, 0, none⟩)] W fun e w' => ∃ a n q, e = .returned (.slice a n q) ∧ Hid (FullX w ((lo0 w).with mb) c Db mb (roomN (r)) (i + 1) chs w' v ∧ w'.ownsRow w.heap.size 103 2 (.slice a n q) (kvL (kvOf chs)).length (cellsP (kvL (kvOf chs))))) := fun W v h => full_fold2 h.out
            have h32 : Hid (∀ W u v, Hid (FullX w ((lo0 w).with mb) c Db mb (roomN (r)) (i + 1) chs W v ∧ W.ownsRow w.heap.size 103 2 u (kvL (kvOf chs)).length (cellsP (kvL (kvOf chs)))) → Calls Tryz.prog 32 #[u, v] W fun e w' => e = .returned (.bool true) ∧ Hid (FullX w ((lo0 w).with mb) c Db mb (roomN (r)) (i + 1) chs w' v)) := fun W u v h => full_same (by omega) h.out.1 h.out.2
            have h28 : Hid (∀ W v, Hid (FullX w ((lo0 w).with mb) c Db mb (roomN (r)) (i + 1) chs W v) → Calls Tryz.prog 28 #[.pointer (some ⟨c, 0, none⟩)] W fun e w' => e = .returned (.bool false) ∧ w' = W) := fun W v h => full_broken h.out
            clear hE1 hE2 hE
            go_wp2_with (go_at_call 23; refine h23.out.mono ?_; rintro e w2 ⟨a2, n2, q2, rfl, s2⟩; obtain ⟨k1, k2⟩ := hcl.out _ _ s2)
            have s2d : Hid (FullR w ((lo0 w).with mb) c Db mb S K w2.drew (.slice a2 n2 q2)) := s2.out.drew
            go_region_held3 (fun w' => w'.cell? ⟨b, o + i * 3, none⟩ = some (.string ch.k) ∧ w'.cell? ⟨b, o + i * 3 + 1, none⟩ = some (.string ch.v)) (go_keep) (first | (go_at_call 18; refine (h18.out _ _ s2d).mono ?_; rintro e w3 ⟨rfl, s3⟩; obtain ⟨m1, m2⟩ := hcb.out w3 s3.out.bel))
            go_wp2_with (first
              | (go_at_call 28; refine (h28.out _ _ s5).mono ?_; rintro e w6 ⟨rfl, e1⟩; rw [e1]; clear e1)
              | (go_at_call 32; refine (h32.out _ _ _ s4).mono ?_; rintro e w5 ⟨rfl, s5⟩)
              | (go_at_call 23; refine (h23b.out _ _ s3).mono ?_; rintro e w4 ⟨a4, n4, q4, rfl, s4⟩))
            go_roundw
            case rel => exact ⟨i + 1, by omega, by omega, by simp, s5.out.on⟩
            case measure => simp; omega
          · have h18 : Hid (∀ W u, Hid (FullR w ((lo0 w).with mb) c Db mb S K W u) → Calls Tryz.prog 18 #[.pointer (some ⟨c, 0, none⟩), .string ch.k, .string ch.v] W fun e w' => e = .returned (.int .i64 E) ∧ Hid (FullI w ((lo0 w).with mb) c Db mb (roomN (r)) (i + 1) w')) := fun W u h => hE1 hE W u h.out
            clear hE1 hE2
            go_wp2_with (go_at_call 23; refine h23.out.mono ?_; rintro e w2 ⟨a2, n2, q2, rfl, s2⟩; obtain ⟨k1, k2⟩ := hcl.out _ _ s2)
            have s2d : Hid (FullR w ((lo0 w).with mb) c Db mb S K w2.drew (.slice a2 n2 q2)) := s2.out.drew
            go_region_held3 (fun w' => w'.cell? ⟨b, o + i * 3, none⟩ = some (.string ch.k) ∧ w'.cell? ⟨b, o + i * 3 + 1, none⟩ = some (.string ch.v)) (go_keep) (first | (go_at_call 18; refine (h18.out _ _ s2d).mono ?_; rintro e w3 ⟨rfl, s3⟩; obtain ⟨m1, m2⟩ := hcb.out w3 s3.out.bel))
            have hE3 : (E == 22) = false := beq_eq_false_iff_ne.2 hE
            go_wp2
            go_roundw
            case rel => exact ⟨i + 1, by omega, by omega, by simp, s3⟩
            case measure => simp; omega
        · obtain rfl : i = 40 := by omega
          have g1 : (40 : Int) < (LN : Int) := by omega
          have h38 : Hid (∀ W, Hid (FullI w ((lo0 w).with mb) c Db mb (roomN (r)) 40 W) → Calls Tryz.prog 38 #[.pointer (some ⟨Db, 0, none⟩), .int .i64 1048576] W fun e w' => e = .returned (.tuple #[]) ∧ Hid (FullE w ((lo0 w).with mb) c Db mb w')) := fun W h => full_limit h.out hrn.out (by omega)
          have h18 : Hid (∀ W, Hid (FullE w ((lo0 w).with mb) c Db mb W) → Calls Tryz.prog 18 #[.pointer (some ⟨c, 0, none⟩), .string moreB, .string roomS] W fun e w' => e = .returned (.int .i64 0) ∧ Hid (FullZ w ((lo0 w).with mb) c Db mb w')) := fun W h => full_last h.out
          have h15 : Hid (∀ W, Hid (FullZ w ((lo0 w).with mb) c Db mb W) → Calls Tryz.prog 15 #[.pointer (some ⟨c, 0, none⟩), .string moreB] W fun e w' => e = .returned (.tuple #[.string roomS, .int .i64 0]) ∧ Hid (Below w.heap.size w w')) := fun W h => full_get h.out
          go_wp2_with (first
            | (go_at_call 15; refine (h15.out _ z2).mono ?_; rintro e w5 ⟨rfl, z3⟩)
            | (go_at_call 18; refine (h18.out _ z1).mono ?_; rintro e w4 ⟨rfl, z2⟩)
            | (go_at_call 38; refine (h38.out _ hI).mono ?_; rintro e w3 ⟨rfl, z1⟩))
          go_ret
          exact ⟨rfl, z3.out⟩
      · obtain rfl : i = LN := by omega
        have h38 : Hid (∀ W, Hid (FullI w ((lo0 w).with mb) c Db mb (roomN (r)) i W) → Calls Tryz.prog 38 #[.pointer (some ⟨Db, 0, none⟩), .int .i64 1048576] W fun e w' => e = .returned (.tuple #[]) ∧ Hid (FullE w ((lo0 w).with mb) c Db mb w')) := fun W h => full_limit h.out hrn.out (by omega)
        have h18 : Hid (∀ W, Hid (FullE w ((lo0 w).with mb) c Db mb W) → Calls Tryz.prog 18 #[.pointer (some ⟨c, 0, none⟩), .string moreB, .string roomS] W fun e w' => e = .returned (.int .i64 0) ∧ Hid (FullZ w ((lo0 w).with mb) c Db mb w')) := fun W h => full_last h.out
        have h15 : Hid (∀ W, Hid (FullZ w ((lo0 w).with mb) c Db mb W) → Calls Tryz.prog 15 #[.pointer (some ⟨c, 0, none⟩), .string moreB] W fun e w' => e = .returned (.tuple #[.string roomS, .int .i64 0]) ∧ Hid (Below w.heap.size w w')) := fun W h => full_get h.out
        go_wp2_with (first
          | (go_at_call 15; refine (h15.out _ z2).mono ?_; rintro e w5 ⟨rfl, z3⟩)
          | (go_at_call 18; refine (h18.out _ z1).mono ?_; rintro e w4 ⟨rfl, z2⟩)
          | (go_at_call 38; refine (h38.out _ hI).mono ?_; rintro e w3 ⟨rfl, z1⟩))
        go_ret
        exact ⟨rfl, z3.out⟩
end Go.Proofs.YtfmmholkeadejaaGreatDoor
