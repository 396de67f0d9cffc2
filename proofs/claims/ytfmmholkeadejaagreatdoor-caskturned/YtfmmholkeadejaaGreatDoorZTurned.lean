/- CaskTurned (5): the walk. -/
import Derived.Deep.RegionHeld3
import Derived.Deep.RegionHeldLaw
import Derived.Test.YtfmmholkeadejaaGreatDoorZCkFull
import Derived.Test.YtfmmholkeadejaaGreatDoorZCkTurnE
namespace Go.Proofs.YtfmmholkeadejaaGreatDoor
open Go.RowKit

theorem DCur.belowT {w0 W W' : World} {N : Lo} {d : Nat} {S : Dk} (h : DCur w0 W N d S) (hb : Below W.heap.size W W') : DCur w0 W' N d S :=
  ⟨h.disk.below hb, h.lo, h.tab.on (hb.mono h.sz), h.bel.trans (hb.mono h.bel.size), fun i hi => Nat.lt_of_lt_of_le (h.lt i hi) hb.size⟩
theorem hold0 {wn W : World} {ob : Obj} {x y z : ByteArray} (h : Below wn.heap.size wn W) : Hid (Below wn.heap.size wn ((W.alloc ob).alloc (.cells #[.string x, .string y, .string z] 9))) ∧ Hid (Holds ((W.alloc ob).alloc (.cells #[.string x, .string y, .string z] 9)) (W.heap.size + 1) [.string x, .string y, .string z] 9) := by
  refine ⟨(h.alloc h.size ob).alloc (h.alloc h.size ob).size _, ?_⟩
  have := holds_new (W.alloc ob) [.string x, .string y, .string z] 9
  have e : (W.alloc ob).heap.size = W.heap.size + 1 := by simp
  rw [e] at this
  exact this
theorem hold1 {wn W : World} {x y z : ByteArray} (h : Below wn.heap.size wn W) : Hid (Below wn.heap.size wn (W.alloc (.cells #[.string x, .string y, .string z] 9))) ∧ Hid (Holds (W.alloc (.cells #[.string x, .string y, .string z] 9)) W.heap.size [.string x, .string y, .string z] 9) :=
  ⟨h.alloc h.size _, holds_new W [.string x, .string y, .string z] 9⟩
theorem hold2 {wn W : World} {M : Nat} {ob : Obj} {x y z : ByteArray} (hM : wn.heap.size = M) (h : Below wn.heap.size wn ((wn.alloc ob).alloc (.cells #[.string x, .string y, .string z] 9)).drew) (hb : Below ((wn.alloc ob).alloc (.cells #[.string x, .string y, .string z] 9)).drew.heap.size ((wn.alloc ob).alloc (.cells #[.string x, .string y, .string z] 9)).drew W) : Hid (Below wn.heap.size wn W) ∧ Hid (Holds W (M + 1) [.string x, .string y, .string z] 9) := by
  have h1 := holds_new (wn.alloc ob) [.string x, .string y, .string z] 9
  have e : (wn.alloc ob).heap.size = M + 1 := by simp [hM]
  rw [e] at h1
  have h2 : Holds ((wn.alloc ob).alloc (.cells #[.string x, .string y, .string z] 9)).drew (M + 1) [.string x, .string y, .string z] 9 := h1
  exact ⟨h.trans (hb.mono h.size), h2.below hb h2.lt⟩
theorem keep1 {wn W : World} {M : Nat} {ob : Obj} (hM : wn.heap.size = M) (hb : Below (wn.alloc ob).drew.heap.size (wn.alloc ob).drew W) : W.heap[M]? = some ob := by
  have e : (wn.alloc ob).drew.heap[M]? = some ob := by rw [← hM]; exact heap_alloc_new wn ob
  exact (hb.block M (Array.getElem?_eq_some_iff.1 e).1).trans e
theorem row_nT {W : World} {m e size n k q : Nat} {a : Option Addr} {xs : List Value} (h : W.ownsRow m e size (.slice a n q) k xs) : n = k := by
  obtain ⟨a', q', e1⟩ := row_slice h
  injection e1
theorem rec_chR (c : Ch) (h : cfE c.k c.v = 0) : recV c.k c.v c.dead = chR c := by rw [recV, if_pos h]; rfl
set_option maxHeartbeats 8000000 in
set_option maxRecDepth 100000 in
theorem caskTurned_walk (l : List Ch) (a : Option Addr) (cap : Nat) (at_ : Int) (by_ : Nat) (hat : -9223372036854775808 ≤ at_ ∧ at_ < 9223372036854775808) (hby : by_ < 256) (hlen : l.length ≤ 9223372036854775807) (w : World) (hT : Tab w.heap.size w) (hl : InC w a l) :
    Calls Tryz.prog 5 #[.slice a l.length cap, .int .i64 at_, .int .u8 by_] w fun e w' => e = .returned (.bool true) ∧ Below w.heap.size w w' := by
  have hA : Hid (Calls Tryz.prog 17 #[] w fun e w' => e = .returned (.bool true) ∧ Hid (Below w.heap.size w w')) := awake_any w hT
  have hTT : Hid (Tab w.heap.size w) := hT
  have hl : Hid (InC w a l) := hl
  obtain ⟨i3, f3, hz3, hs3, hb3⟩ := cinf3
  obtain ⟨LN, hLN⟩ : ∃ LN, l.length = LN := ⟨_, rfl⟩
  have hLN : Hid (l.length = LN) := hLN
  rw [hLN.out] at hlen ⊢
  clear hT
  go_enter Tryz.func5, Tryz.ntmps5
  go_wp2_with (go_at_call 17; refine hA.out.mono ?_; rintro e wA ⟨rfl, sA⟩)
  clear hA
  go_loopw [8, 9, 10] (fun sv v p wr => ∃ i : Nat, i ≤ LN ∧ p = .int .i64 (i : Int) ∧ ∃ t chs xs a m q, sv = .string t ∧ v = .slice a m q ∧ t.size ≤ 3000 ∧ Hid (TrS w chs t xs wr (.slice a m q))) (fun _ _ p _ => LN - (intOf p).toNat)
  case atStart => exact ⟨0, by omega, rfl, _, [], [], _, _, _, rfl, rfl, by decide, TrS.start sA.out⟩
  case round =>
    obtain ⟨i, hi, rfl, t, chs, xs, a1, m, q, rfl, rfl, ht, hI⟩ := hrel
    clear sA
    rcases Nat.lt_or_ge i LN with hlt | hge
    · have hlen' := hLN.out
      obtain ⟨ch, hch⟩ : ∃ ch, l[i]? = some ch := ⟨_, List.getElem?_eq_getElem (by omega)⟩
      obtain ⟨b, o, rfl, hb, hcells⟩ := hl.out (fun e => by rw [e] at hch; simp at hch)
      have hcb : Hid (∀ W, Below w.heap.size w W → W.cell? ⟨b, o + i * 3, none⟩ = some (.string ch.k) ∧ W.cell? ⟨b, o + i * 3 + 1, none⟩ = some (.string ch.v) ∧ W.cell? ⟨b, o + i * 3 + 2, none⟩ = some (.bool ch.dead)) := fun W hB => by
        obtain ⟨x1, x2, x3⟩ := hcells i ch hch
        exact ⟨(hB.cell (p := ⟨b, o + i * 3, none⟩) hb).trans x1, (hB.cell (p := ⟨b, o + i * 3 + 1, none⟩) hb).trans x2, (hB.cell (p := ⟨b, o + i * 3 + 2, none⟩) hb).trans x3⟩
      obtain ⟨k1, k2, k3⟩ := hcb.out wr hI.out.bel
      have hbd : Hid (Below w.heap.size w wr.drew) := hI.out.bel.drew
      obtain ⟨R, hR⟩ : ∃ R, recV ch.k ch.v ch.dead = R := ⟨_, rfl⟩
      obtain ⟨E, hE⟩ : ∃ E, cfE ch.k ch.v = E := ⟨_, rfl⟩
      have h34 : Hid (Calls Tryz.prog 34 #[.string ch.k, .string ch.v, .bool ch.dead] wr.drew fun e w' => e = .returned (.tuple #[.string R, .int .i64 E]) ∧ Hid (TrS w chs t xs w' (.slice a1 m q))) := by
        have q := record_any ch.k ch.v ch.dead wr.drew
        rw [hR, hE] at q
        exact q.mono fun e w' ⟨e1, e2⟩ => ⟨e1, (hI.out.below ((Below.refl _ wr).drew)).below e2⟩
      have hE0 : Hid (E = 0 → ch.Ok ∧ R = chR ch) := fun e => ⟨hE.trans e, by rw [← hR]; exact rec_chR ch (hE.trans e)⟩
      have g1 : (i : Int) < (LN : Int) := by omega
      have g2 : (0 : Int) ≤ (i : Int) := by omega
      have g4 : IntKind.i64.wrap ((i : Int) + 1) = (i : Int) + 1 := by simp [IntKind.wrap, IntKind.bits, IntKind.signed]; omega
      have hTS := hI
      clear hcells hb hI hlen' hch hR hE
      by_cases hE : E = 0
      · subst hE
        have hEk : Hid (ch.Ok ∧ R = chR ch) := hE0.out rfl
        clear hE0
        have hRl : Hid (R.size = (chB ch).length ∧ 5 ≤ R.size) := by
          have h5 := rec_five ch
          have e : R.size = (chB ch).length := by
            rw [hEk.out.2]
            show (Pk.strL (chB ch)).data.toList.length = _
            rw [Pk.strL_list]
          exact ⟨e, by omega⟩
        have hR5 : 5 ≤ R.size := hRl.out.2
        have wS : R.size ≤ 9223372036854775 → IntKind.i64.wrap ((t.size : Int) + (R.size : Int)) = (t.size : Int) + (R.size : Int) := fun h => by simp [IntKind.wrap, IntKind.bits, IntKind.signed]; omega
        have hRb : R.size ≤ 9223372036854775 := by
          have e := hRl.out.1
          have q := rec_big ch hEk.out.1
          omega
        have wS := wS hRb
        rcases Nat.lt_or_ge 3000 (t.size + R.size) with hbig | hsm
        · have n1 : decide ((3000 : Int) < (t.size : Int) + (R.size : Int)) = true := decide_eq_true (by omega)
          have n2 : (3000 : Int) < (t.size : Int) + (R.size : Int) := by omega
          go_wp2_with fail
          go_region_held3 (fun w' => w'.cell? ⟨b, o + i * 3, none⟩ = some (.string ch.k) ∧ w'.cell? ⟨b, o + i * 3 + 1, none⟩ = some (.string ch.v) ∧ w'.cell? ⟨b, o + i * 3 + 2, none⟩ = some (.bool ch.dead)) (go_keep) (first | (go_at_call 34; refine h34.out.mono ?_; rintro e w3 ⟨rfl, s3⟩; obtain ⟨z1, z2, z3⟩ := hcb.out w3 s3.out.bel))
          go_wp2
          go_roundw
          case rel => exact ⟨i + 1, by omega, by simp, t, chs, xs, _, _, _, rfl, rfl, ht, s3⟩
          case measure => simp; omega
        · have n1 : decide ((3000 : Int) < (t.size : Int) + (R.size : Int)) = false := decide_eq_false (by omega)
          have n2 : ¬ (3000 : Int) < (t.size : Int) + (R.size : Int) := by omega
          rcases Nat.lt_or_ge 132 R.size with h132 | h132
          · have r1 : decide ((132 : Int) < (R.size : Int)) = true := decide_eq_true (by omega)
            have r2 : (132 : Int) < (R.size : Int) := by omega
            have hEn : Hid (∀ W, Hid (TrS w chs t xs W (.slice a1 m q)) → Hid (TrM w chs ch t xs 2 2 W (.slice a1 m q))) := fun W h => h.out.enter ch 2
            have hBy : Hid (t.data.toList = chs.flatMap chB ∧ ∀ c ∈ chs, c.Ok) := ⟨hTS.out.bytes, hTS.out.oks⟩
            go_wp2_with fail
            go_region_held3 (fun w' => w'.cell? ⟨b, o + i * 3, none⟩ = some (.string ch.k) ∧ w'.cell? ⟨b, o + i * 3 + 1, none⟩ = some (.string ch.v) ∧ w'.cell? ⟨b, o + i * 3 + 2, none⟩ = some (.bool ch.dead)) (go_keep) (first | (go_at_call 34; refine h34.out.mono ?_; rintro e w3 ⟨rfl, s3⟩; obtain ⟨z1, z2, z3⟩ := hcb.out w3 s3.out.bel))
            go_wp2_with fail
            have s4 := hEn.out _ s3
            clear s3 hEn h34
            go_loopw [9, 14] (fun v p wq => ∃ j : Nat, 2 ≤ j ∧ j ≤ R.size ∧ p = .int .i64 (j : Int) ∧ ∃ xs a m q, v = .slice a m q ∧ Hid (TrM w chs ch t xs j 2 wq (.slice a m q))) (fun _ p _ => R.size - (intOf p).toNat)
            case atStart => exact ⟨2, Nat.le_refl _, by omega, rfl, xs, _, _, _, rfl, s4⟩
            case round =>
              obtain ⟨j, hj1, hj2, rfl, xs2, a2, m2, q2, rfl, hM⟩ := hrel
              clear s4
              rcases Nat.lt_or_ge j R.size with hjl | hjg
              · have hsp : Hid (Spot ch j) := spot2 ch (by have := hRl.out; omega) j hj1 (by have := hRl.out; omega)
                have n1 : IntKind.i64.wrap ((t.size : Int) + (j : Int)) = (t.size : Int) + (j : Int) := by simp [IntKind.wrap, IntKind.bits, IntKind.signed]; omega
                have n2 : IntKind.i64.wrap ((j : Int) + 1) = (j : Int) + 1 := by simp [IntKind.wrap, IntKind.bits, IntKind.signed]; omega
                have n3 : (j : Int) < (R.size : Int) := by omega
                have mk4 : Hid (∀ (v4 : Value) (w4 : World), w4.ownsRow w.heap.size 3 1 v4 (xs2.length + 1) (segV xs2 ++ [.int .i64 ((t.size : Int) + (j : Int))]) → (wr.alloc (.cells #[.int .i64 ((t.size : Int) + (j : Int))] 3)).grownBy w4 (Value.slice a2 m2 q2).ownBlock → Hid (TrM w chs ch t (xs2 ++ [t.size + j]) (j + 1) 2 w4 v4)) := fun v4 w4 ho hg => hM.out.next hBy.out.1 hsp.out hg ho
                have hl1 : Hid (xs2.length + 1 ≤ maxLen) := by show _ ≤ _; have := hM.out.len; unfold maxLen; omega
                have hl2 : Hid ((xs2.length + 1) * 8 ≤ 140737488355328) := by show _ ≤ _; have := hM.out.len; omega
                have hl3 : Hid (w.heap.size ≤ (wr.alloc (.cells #[.int .i64 ((t.size : Int) + (j : Int))] 3)).heap.size) := by show _ ≤ _; have := hM.out.bel.size; simp; omega
                go_wp2_with (at_builtin; go_loud (refine wpList_append_src rfl _ _ 26 rfl w.heap.size 3 i3 (.int .i64 0) 1 8 Tryz.underlying26 f3 hz3 hs3 hb3 rfl (by decide) _ _ _ (hM.out.row.alloc _) rfl [.int .i64 ((t.size : Int) + (j : Int))] (some ⟨wr.heap.size, 0, none⟩) 1 1 rfl rfl (fun _ => ⟨_, rfl, new_int wr _⟩) (by simp [Value.oneCell']) hl1.out hl2.out hl3.out ?_; intro v4 w4 own4 grow4 loc4; clear loc4; obtain ⟨a4, c4, rfl⟩ := row_slice own4; have s5 := mk4.out _ _ own4 grow4; clear own4 grow4))
                go_roundw
                case rel => exact ⟨j + 1, by omega, by omega, by simp, _, _, _, _, rfl, s5⟩
                case measure => simp; omega
              · have hjR : Hid (j = R.size) := by show j = _; omega
                have n3 : ¬ (j : Int) < (R.size : Int) := by omega
                have n5 : decide ((j : Int) < (R.size : Int)) = false := decide_eq_false n3
                have n4 : ¬ 9223372036854775807 < t.size + R.size := by omega
                have s6 : Hid (TrS w (chs ++ [ch]) (t ++ R) xs2 wr (.slice a2 m2 q2)) := by
                  have := hEk.out
                  have e := hjR.out
                  have hM2 := hM.out
                  rw [this.2] at e ⊢
                  exact hM2.leave hBy.out.1 hBy.out.2 this.1 e (by decide)
                have n6 : (t ++ R).size ≤ 3000 := by rw [ByteArray.size_append]; omega
                go_wp2
                go_roundw
                case rel => exact ⟨i + 1, by omega, by simp, _, _, _, _, _, _, rfl, rfl, n6, s6⟩
                case measure => simp; omega
          · have r1 : decide ((132 : Int) < (R.size : Int)) = false := decide_eq_false (by omega)
            have r2 : ¬ (132 : Int) < (R.size : Int) := by omega
            have hEn : Hid (∀ W, Hid (TrS w chs t xs W (.slice a1 m q)) → Hid (TrM w chs ch t xs 1 1 W (.slice a1 m q))) := fun W h => h.out.enter ch 1
            have hBy : Hid (t.data.toList = chs.flatMap chB ∧ ∀ c ∈ chs, c.Ok) := ⟨hTS.out.bytes, hTS.out.oks⟩
            go_wp2_with fail
            go_region_held3 (fun w' => w'.cell? ⟨b, o + i * 3, none⟩ = some (.string ch.k) ∧ w'.cell? ⟨b, o + i * 3 + 1, none⟩ = some (.string ch.v) ∧ w'.cell? ⟨b, o + i * 3 + 2, none⟩ = some (.bool ch.dead)) (go_keep) (first | (go_at_call 34; refine h34.out.mono ?_; rintro e w3 ⟨rfl, s3⟩; obtain ⟨z1, z2, z3⟩ := hcb.out w3 s3.out.bel))
            go_wp2_with fail
            have s4 := hEn.out _ s3
            clear s3 hEn h34
            go_loopw [9, 14] (fun v p wq => ∃ j : Nat, 1 ≤ j ∧ j ≤ R.size ∧ p = .int .i64 (j : Int) ∧ ∃ xs a m q, v = .slice a m q ∧ Hid (TrM w chs ch t xs j 1 wq (.slice a m q))) (fun _ p _ => R.size - (intOf p).toNat)
            case atStart => exact ⟨1, Nat.le_refl _, by omega, rfl, xs, _, _, _, rfl, s4⟩
            case round =>
              obtain ⟨j, hj1, hj2, rfl, xs2, a2, m2, q2, rfl, hM⟩ := hrel
              clear s4
              rcases Nat.lt_or_ge j R.size with hjl | hjg
              · have hsp : Hid (Spot ch j) := spot1 ch (by have := hRl.out; omega) j hj1 (by have := hRl.out; omega)
                have n1 : IntKind.i64.wrap ((t.size : Int) + (j : Int)) = (t.size : Int) + (j : Int) := by simp [IntKind.wrap, IntKind.bits, IntKind.signed]; omega
                have n2 : IntKind.i64.wrap ((j : Int) + 1) = (j : Int) + 1 := by simp [IntKind.wrap, IntKind.bits, IntKind.signed]; omega
                have n3 : (j : Int) < (R.size : Int) := by omega
                have mk4 : Hid (∀ (v4 : Value) (w4 : World), w4.ownsRow w.heap.size 3 1 v4 (xs2.length + 1) (segV xs2 ++ [.int .i64 ((t.size : Int) + (j : Int))]) → (wr.alloc (.cells #[.int .i64 ((t.size : Int) + (j : Int))] 3)).grownBy w4 (Value.slice a2 m2 q2).ownBlock → Hid (TrM w chs ch t (xs2 ++ [t.size + j]) (j + 1) 1 w4 v4)) := fun v4 w4 ho hg => hM.out.next hBy.out.1 hsp.out hg ho
                have hl1 : Hid (xs2.length + 1 ≤ maxLen) := by show _ ≤ _; have := hM.out.len; unfold maxLen; omega
                have hl2 : Hid ((xs2.length + 1) * 8 ≤ 140737488355328) := by show _ ≤ _; have := hM.out.len; omega
                have hl3 : Hid (w.heap.size ≤ (wr.alloc (.cells #[.int .i64 ((t.size : Int) + (j : Int))] 3)).heap.size) := by show _ ≤ _; have := hM.out.bel.size; simp; omega
                go_wp2_with (at_builtin; go_loud (refine wpList_append_src rfl _ _ 26 rfl w.heap.size 3 i3 (.int .i64 0) 1 8 Tryz.underlying26 f3 hz3 hs3 hb3 rfl (by decide) _ _ _ (hM.out.row.alloc _) rfl [.int .i64 ((t.size : Int) + (j : Int))] (some ⟨wr.heap.size, 0, none⟩) 1 1 rfl rfl (fun _ => ⟨_, rfl, new_int wr _⟩) (by simp [Value.oneCell']) hl1.out hl2.out hl3.out ?_; intro v4 w4 own4 grow4 loc4; clear loc4; obtain ⟨a4, c4, rfl⟩ := row_slice own4; have s5 := mk4.out _ _ own4 grow4; clear own4 grow4))
                go_roundw
                case rel => exact ⟨j + 1, by omega, by omega, by simp, _, _, _, _, rfl, s5⟩
                case measure => simp; omega
              · have hjR : Hid (j = R.size) := by show j = _; omega
                have n3 : ¬ (j : Int) < (R.size : Int) := by omega
                have n5 : decide ((j : Int) < (R.size : Int)) = false := decide_eq_false n3
                have n4 : ¬ 9223372036854775807 < t.size + R.size := by omega
                have s6 : Hid (TrS w (chs ++ [ch]) (t ++ R) xs2 wr (.slice a2 m2 q2)) := by
                  have := hEk.out
                  have e := hjR.out
                  have hM2 := hM.out
                  rw [this.2] at e ⊢
                  exact hM2.leave hBy.out.1 hBy.out.2 this.1 e (by decide)
                have n6 : (t ++ R).size ≤ 3000 := by rw [ByteArray.size_append]; omega
                go_wp2
                go_roundw
                case rel => exact ⟨i + 1, by omega, by simp, _, _, _, _, _, _, rfl, rfl, n6, s6⟩
                case measure => simp; omega
      · have hE3 : (E == 0) = false := beq_eq_false_iff_ne.2 hE
        have hE4 : (E != 0) = true := by simpa using hE
        go_wp2_with fail
        go_region_held3 (fun w' => w'.cell? ⟨b, o + i * 3, none⟩ = some (.string ch.k) ∧ w'.cell? ⟨b, o + i * 3 + 1, none⟩ = some (.string ch.v) ∧ w'.cell? ⟨b, o + i * 3 + 2, none⟩ = some (.bool ch.dead)) (go_keep) (first | (go_at_call 34; refine h34.out.mono ?_; rintro e w3 ⟨rfl, s3⟩; obtain ⟨z1, z2, z3⟩ := hcb.out w3 s3.out.bel))
        go_wp2
        go_roundw
        case rel => exact ⟨i + 1, by omega, by simp, t, chs, xs, _, _, _, rfl, rfl, ht, s3⟩
        case measure => simp; omega
    · obtain rfl : i = LN := by omega
      by_cases hcs : chs = []
      · subst hcs
        have ht0 : t = ⟨#[]⟩ := by
          have := hI.out.bytes
          simp at this
          exact bytes_ext (by rw [this])
        subst ht0
        have hb : Hid (Below w.heap.size w wr) := hI.out.bel
        go_wp2
        go_ret
        exact ⟨rfl, hb.out⟩
      · have hmx : Hid (m = xs.length) := row_nT hI.out.row
        have hm0 : 0 < m := by
          have := hmx.out
          have := List.length_pos_iff.2 (hI.out.any hcs)
          omega
        have hm3 : m ≤ 3000 := by have := hmx.out; have := hI.out.len; omega
        have hem : t.toList.isEmpty = false := emp_false (by
          have := hI.out.len
          have := List.length_pos_iff.2 (hI.out.any hcs)
          show t.size ≠ 0
          omega)
        have q1 : ((m : Int) == 0) = false := beq_eq_false_iff_ne.2 (by omega)
        have q2 : ¬ (m : Int) = 0 := by omega
        have q3 : ¬ m = 0 := by omega
        obtain ⟨k1, hk1⟩ : ∃ k1, IntKind.i64.wrap (at_ + 1) = k1 := ⟨_, rfl⟩
        have hkn : ∃ kk, 0 ≤ kk ∧ ((at_ < 0 ∧ IntKind.i64.wrap (-k1) = kk) ∨ (¬ at_ < 0 ∧ at_ = kk)) := by
          by_cases hneg : at_ < 0
          · have e : k1 = at_ + 1 := by rw [← hk1]; simp [IntKind.wrap, IntKind.bits, IntKind.signed]; omega
            refine ⟨-k1, by omega, .inl ⟨hneg, ?_⟩⟩
            rw [e]; simp [IntKind.wrap, IntKind.bits, IntKind.signed]; omega
          · exact ⟨at_, by omega, .inr ⟨hneg, rfl⟩⟩
        obtain ⟨kk, hkk0, hkk⟩ := hkn
        obtain ⟨rn, hrn, hrl⟩ : ∃ rn : Nat, Int.tmod kk (m : Int) = (rn : Int) ∧ rn < m := by
          have h1 := Int.tmod_nonneg (m : Int) hkk0
          have h2 := Int.tmod_lt_of_pos kk (b := (m : Int)) (by omega)
          exact ⟨(Int.tmod kk (m : Int)).toNat, by omega, by omega⟩
        have hrw : IntKind.i64.wrap ((rn : Nat) : Int) = (rn : Int) := by simp [IntKind.wrap, IntKind.bits, IntKind.signed]; omega
        have hr0 : (0 : Int) ≤ (rn : Int) := by omega
        have hr1 : (rn : Int) < (m : Int) := by omega
        obtain ⟨p, hp⟩ : ∃ p, xs[rn]? = some p := ⟨_, List.getElem?_eq_getElem (by have := hmx.out; omega)⟩
        obtain ⟨g, rfl, hgc⟩ : ∃ g, a1 = some ⟨g, 0, none⟩ ∧ wr.cell? ⟨g, rn, none⟩ = some (.int .i64 (p : Int)) := by
          obtain ⟨a', cp, e, hc⟩ := num_cells hI.out.row rfl
          injection e with e1 e2 e3
          obtain ⟨g, e, _, _, _, hcl⟩ := hc rn p hp
          exact ⟨g, e1.trans e, hcl⟩
        have hGS : Hid (GS chs p) := hI.out.spots p (List.mem_of_getElem? hp)
        have hTS : Hid (t.data.toList = chs.flatMap chB ∧ ∀ c ∈ chs, c.Ok) := ⟨hI.out.bytes, hI.out.oks⟩
        have hBw : Hid (Below w.heap.size w wr) := hI.out.bel
        have hpt : p < t.size := by
          obtain ⟨A, c, B, k, rfl, e, hsp⟩ := hGS.out
          show p < t.data.toList.length
          rw [hTS.out.1, e, List.flatMap_append, List.flatMap_cons, List.length_append, List.length_append]
          have := hsp.lt
          omega
        have h29 : Hid (Calls Tryz.prog 29 #[.int .i64 10000] wr fun e w' => e = .returned (.pointer (some ⟨wr.heap.size, 0, none⟩)) ∧ Hid (DCur w w' (lo0 w) wr.heap.size (newS 10000))) := full_new w wr hTT.out hBw.out 10000
        obtain ⟨xb, hxb⟩ : ∃ xb, t[p]'hpt = xb := ⟨_, rfl⟩
        have hTF : Hid (∀ y : UInt8, y ≠ xb → TurnF t p y) := fun y hy => turnF_of hTS.out.1 hTS.out.2 hGS.out hpt y (by rw [hxb]; exact hy)
        clear hp hI hcs hmx
        obtain ⟨yb, hyb, hyb0⟩ : ∃ yb : Nat, (yb < 256 ∧ 0 < yb) ∧ ((by_ = 0 ∧ yb = 1) ∨ (¬ by_ = 0 ∧ yb = by_)) := by
          by_cases h0 : by_ = 0
          · exact ⟨1, by omega, .inl ⟨h0, rfl⟩⟩
          · exact ⟨by_, by omega, .inr ⟨h0, rfl⟩⟩
        obtain ⟨y, hy, hyx⟩ := turned_byte xb yb hyb.1 (by omega)
        have hTF : Hid (TurnF t p y) := hTF.out y hyx
        have hp1 : (p : Int) ≤ (t.size : Int) := by omega
        have hp2 : (0 : Int) ≤ (p : Int) := by omega
        have hp3 : (p : Int) < (t.size : Int) := by omega
        have hp4 : (p : Int) + 1 ≤ (t.size : Int) := by omega
        have hp6 : (0 : Int) ≤ (p : Int) + 1 := by omega
        have hp5 : ((p : Int) + 1).toNat = p + 1 := by omega
        have hp8 : IntKind.i64.wrap ((p : Int) + 1) = (p : Int) + 1 := by simp [IntKind.wrap, IntKind.bits, IntKind.signed]; omega
        obtain ⟨Ys, hYs⟩ : ∃ Ys, strL [y] = Ys := ⟨_, rfl⟩
        have hYs : Hid (strL [y] = Ys) := hYs
        have hcv : Hid (∀ (W : World) (g : Nat), W.heap[g]? = some (.cells #[.int .u8 (y.toNat : Int)] 5 (0, 0)) → (convert 61 9 (.slice (some ⟨g, 0, none⟩) 1 1)).run Tryz.prog W = .ok (.string Ys) W) := fun W g hg => by
          rw [← hYs.out]
          exact convert_own (B := 0) (bs := [y]) ⟨by simp, .inr ⟨g, 1, _, rfl, by omega, hg, Nat.le_refl _, by unfold maxLen; omega, rfl, rfl⟩⟩
        rcases hkk with ⟨hneg, hkk⟩ | ⟨hneg, hkk⟩
        · rcases hyb0 with ⟨h0, rfl⟩ | ⟨h0, rfl⟩
          · subst h0
            have hy : bits .xor .u8 (xb.toNat : Int) 1 = (y.toNat : Int) := hy
            go_wp2_with (go_at_call 29; refine h29.out.mono ?_; rintro e wn ⟨rfl, sn⟩)
            obtain ⟨Db, hDb⟩ : ∃ Db, wr.heap.size = Db := ⟨_, rfl⟩
            rw [hDb] at sn ⊢
            obtain ⟨M, hM⟩ : ∃ M, wn.heap.size = M := ⟨_, rfl⟩
            have h36 : Hid (∀ W, Below wn.heap.size wn W → Calls Tryz.prog 36 #[.string v1B, .int .i64 3] W fun e w' => e = .returned (.string (fileB v1B 3)) ∧ Below W.heap.size W w') := fun W hW => file_ok (lo0 w) v1B aCap 3 (by decide) (by decide) W (Nat.le_trans sn.out.sz hW.size) (sn.out.tab.on (hW.mono sn.out.sz))
            have h35 : Hid (∀ W g c, Below wn.heap.size wn W → Holds W g [.string (t.extract 0 p), .string Ys, .string (t.extract (p + 1) t.size)] 9 → Calls Tryz.prog 35 #[.pointer (some ⟨Db, 0, none⟩), .string (fileB v1B 3), .slice (some ⟨g, 0, none⟩) 3 c] W fun e w' => e = .returned (.int .i64 0) ∧ Hid (DCur w w' (lo0 w) Db (turnS t p y))) := fun W g c hW hg => turn_append (sn.out.belowT hW) ht (by rw [hYs.out]; exact hg)
            have h16 : Hid (∀ W, Hid (DCur w W (lo0 w) Db (turnS t p y)) → Calls Tryz.prog 16 #[.pointer (some ⟨Db, 0, none⟩), .string v1B] W fun e w' => e = .returned (.tuple #[.pointer none, .int .i64 24]) ∧ Hid (Below w.heap.size w w')) := fun W h => turn_open hTF.out h.out
            have cv0 : (convert 61 9 (.slice (some ⟨M, 0, none⟩) 1 1)).run Tryz.prog (wn.alloc (.cells #[.int .u8 (y.toNat : Int)] 5)).drew = .ok (.string Ys) (wn.alloc (.cells #[.int .u8 (y.toNat : Int)] 5)).drew := hcv.out _ M (hM ▸ heap_alloc_new wn _)
            have cv0b : (convert 61 9 (.slice (some ⟨M, 0, none⟩) 1 1)).run Tryz.prog (wn.drew.alloc (.cells #[.int .u8 (y.toNat : Int)] 5)) = .ok (.string Ys) (wn.drew.alloc (.cells #[.int .u8 (y.toNat : Int)] 5)) := hcv.out _ M (hM ▸ heap_alloc_new wn _)
            have cv0c : (convert 61 9 (.slice (some ⟨wn.heap.size, 0, none⟩) 1 1)).run Tryz.prog (wn.drew.alloc (.cells #[.int .u8 (y.toNat : Int)] 5)) = .ok (.string Ys) (wn.drew.alloc (.cells #[.int .u8 (y.toNat : Int)] 5)) := hcv.out _ wn.heap.size (heap_alloc_new wn _)
            have B0 : Hid (Below wn.heap.size wn wn.drew) := (Below.refl _ _).drew
            have B1 : Hid (Below wn.heap.size wn (wn.alloc (.cells #[.int .u8 (y.toNat : Int)] 5)).drew) := ((Below.refl _ wn).alloc (Nat.le_refl _) _).drew
            have B2 : Hid (Below wn.heap.size wn ((wn.alloc (.cells #[.int .u8 (y.toNat : Int)] 5)).alloc (.cells #[.string (t.extract 0 p), .string Ys, .string (t.extract (p + 1) t.size)] 9)).drew) := (((Below.refl _ wn).alloc (Nat.le_refl _) _).alloc (by simp) _).drew
            generalize fileB v1B 3 = F3 at *
            go_wp2_with fail
            go_region_held_law (fun _ => True) (trivial) (first
              | (go_at_call 35; refine (h35.out _ _ _ A6.1.out A6.2.out).mono ?_; rintro e w7 ⟨rfl, s7⟩)
              | (go_at_call 36; refine (h36.out _ B2.out).mono ?_; rintro e w6 ⟨rfl, b6⟩; have A6 := hold2 hM B2.out b6)
              | (go_at_call 36; refine (h36.out _ B1.out).mono ?_; rintro e w6 ⟨rfl, b6⟩; have cv6 := hcv.out w6 M (keep1 hM b6); have A6 := hold1 (x := t.extract 0 p) (y := Ys) (z := t.extract (p + 1) t.size) (B1.out.trans (b6.mono B1.out.size)))
              | (go_at_call 36; refine (h36.out _ B0.out).mono ?_; rintro e w6 ⟨rfl, b6⟩; have cv6 := hcv.out (w6.alloc (.cells #[.int .u8 (y.toNat : Int)] 5)) w6.heap.size (heap_alloc_new w6 _); have A6 := hold0 (ob := .cells #[.int .u8 (y.toNat : Int)] 5) (x := t.extract 0 p) (y := Ys) (z := t.extract (p + 1) t.size) (B0.out.trans (b6.mono B0.out.size))))
            all_goals
              go_wp2_with (go_at_call 16; refine (h16.out _ s7).mono ?_; rintro e w8 ⟨rfl, s8⟩)
              go_ret
              exact ⟨rfl, s8.out⟩
          · have h0' : (((yb : Nat) : Int) == 0) = false := beq_eq_false_iff_ne.2 (by omega)
            have h0'' : ¬ ((yb : Nat) : Int) = 0 := by omega
            go_wp2_with (go_at_call 29; refine h29.out.mono ?_; rintro e wn ⟨rfl, sn⟩)
            obtain ⟨Db, hDb⟩ : ∃ Db, wr.heap.size = Db := ⟨_, rfl⟩
            rw [hDb] at sn ⊢
            obtain ⟨M, hM⟩ : ∃ M, wn.heap.size = M := ⟨_, rfl⟩
            have h36 : Hid (∀ W, Below wn.heap.size wn W → Calls Tryz.prog 36 #[.string v1B, .int .i64 3] W fun e w' => e = .returned (.string (fileB v1B 3)) ∧ Below W.heap.size W w') := fun W hW => file_ok (lo0 w) v1B aCap 3 (by decide) (by decide) W (Nat.le_trans sn.out.sz hW.size) (sn.out.tab.on (hW.mono sn.out.sz))
            have h35 : Hid (∀ W g c, Below wn.heap.size wn W → Holds W g [.string (t.extract 0 p), .string Ys, .string (t.extract (p + 1) t.size)] 9 → Calls Tryz.prog 35 #[.pointer (some ⟨Db, 0, none⟩), .string (fileB v1B 3), .slice (some ⟨g, 0, none⟩) 3 c] W fun e w' => e = .returned (.int .i64 0) ∧ Hid (DCur w w' (lo0 w) Db (turnS t p y))) := fun W g c hW hg => turn_append (sn.out.belowT hW) ht (by rw [hYs.out]; exact hg)
            have h16 : Hid (∀ W, Hid (DCur w W (lo0 w) Db (turnS t p y)) → Calls Tryz.prog 16 #[.pointer (some ⟨Db, 0, none⟩), .string v1B] W fun e w' => e = .returned (.tuple #[.pointer none, .int .i64 24]) ∧ Hid (Below w.heap.size w w')) := fun W h => turn_open hTF.out h.out
            have cv0 : (convert 61 9 (.slice (some ⟨M, 0, none⟩) 1 1)).run Tryz.prog (wn.alloc (.cells #[.int .u8 (y.toNat : Int)] 5)).drew = .ok (.string Ys) (wn.alloc (.cells #[.int .u8 (y.toNat : Int)] 5)).drew := hcv.out _ M (hM ▸ heap_alloc_new wn _)
            have cv0b : (convert 61 9 (.slice (some ⟨M, 0, none⟩) 1 1)).run Tryz.prog (wn.drew.alloc (.cells #[.int .u8 (y.toNat : Int)] 5)) = .ok (.string Ys) (wn.drew.alloc (.cells #[.int .u8 (y.toNat : Int)] 5)) := hcv.out _ M (hM ▸ heap_alloc_new wn _)
            have cv0c : (convert 61 9 (.slice (some ⟨wn.heap.size, 0, none⟩) 1 1)).run Tryz.prog (wn.drew.alloc (.cells #[.int .u8 (y.toNat : Int)] 5)) = .ok (.string Ys) (wn.drew.alloc (.cells #[.int .u8 (y.toNat : Int)] 5)) := hcv.out _ wn.heap.size (heap_alloc_new wn _)
            have B0 : Hid (Below wn.heap.size wn wn.drew) := (Below.refl _ _).drew
            have B1 : Hid (Below wn.heap.size wn (wn.alloc (.cells #[.int .u8 (y.toNat : Int)] 5)).drew) := ((Below.refl _ wn).alloc (Nat.le_refl _) _).drew
            have B2 : Hid (Below wn.heap.size wn ((wn.alloc (.cells #[.int .u8 (y.toNat : Int)] 5)).alloc (.cells #[.string (t.extract 0 p), .string Ys, .string (t.extract (p + 1) t.size)] 9)).drew) := (((Below.refl _ wn).alloc (Nat.le_refl _) _).alloc (by simp) _).drew
            generalize fileB v1B 3 = F3 at *
            go_wp2_with fail
            go_region_held_law (fun _ => True) (trivial) (first
              | (go_at_call 35; refine (h35.out _ _ _ A6.1.out A6.2.out).mono ?_; rintro e w7 ⟨rfl, s7⟩)
              | (go_at_call 36; refine (h36.out _ B2.out).mono ?_; rintro e w6 ⟨rfl, b6⟩; have A6 := hold2 hM B2.out b6)
              | (go_at_call 36; refine (h36.out _ B1.out).mono ?_; rintro e w6 ⟨rfl, b6⟩; have cv6 := hcv.out w6 M (keep1 hM b6); have A6 := hold1 (x := t.extract 0 p) (y := Ys) (z := t.extract (p + 1) t.size) (B1.out.trans (b6.mono B1.out.size)))
              | (go_at_call 36; refine (h36.out _ B0.out).mono ?_; rintro e w6 ⟨rfl, b6⟩; have cv6 := hcv.out (w6.alloc (.cells #[.int .u8 (y.toNat : Int)] 5)) w6.heap.size (heap_alloc_new w6 _); have A6 := hold0 (ob := .cells #[.int .u8 (y.toNat : Int)] 5) (x := t.extract 0 p) (y := Ys) (z := t.extract (p + 1) t.size) (B0.out.trans (b6.mono B0.out.size))))
            all_goals
              go_wp2_with (go_at_call 16; refine (h16.out _ s7).mono ?_; rintro e w8 ⟨rfl, s8⟩)
              go_ret
              exact ⟨rfl, s8.out⟩
        · subst hkk
          rcases hyb0 with ⟨h0, rfl⟩ | ⟨h0, rfl⟩
          · subst h0
            have hy : bits .xor .u8 (xb.toNat : Int) 1 = (y.toNat : Int) := hy
            go_wp2_with (go_at_call 29; refine h29.out.mono ?_; rintro e wn ⟨rfl, sn⟩)
            obtain ⟨Db, hDb⟩ : ∃ Db, wr.heap.size = Db := ⟨_, rfl⟩
            rw [hDb] at sn ⊢
            obtain ⟨M, hM⟩ : ∃ M, wn.heap.size = M := ⟨_, rfl⟩
            have h36 : Hid (∀ W, Below wn.heap.size wn W → Calls Tryz.prog 36 #[.string v1B, .int .i64 3] W fun e w' => e = .returned (.string (fileB v1B 3)) ∧ Below W.heap.size W w') := fun W hW => file_ok (lo0 w) v1B aCap 3 (by decide) (by decide) W (Nat.le_trans sn.out.sz hW.size) (sn.out.tab.on (hW.mono sn.out.sz))
            have h35 : Hid (∀ W g c, Below wn.heap.size wn W → Holds W g [.string (t.extract 0 p), .string Ys, .string (t.extract (p + 1) t.size)] 9 → Calls Tryz.prog 35 #[.pointer (some ⟨Db, 0, none⟩), .string (fileB v1B 3), .slice (some ⟨g, 0, none⟩) 3 c] W fun e w' => e = .returned (.int .i64 0) ∧ Hid (DCur w w' (lo0 w) Db (turnS t p y))) := fun W g c hW hg => turn_append (sn.out.belowT hW) ht (by rw [hYs.out]; exact hg)
            have h16 : Hid (∀ W, Hid (DCur w W (lo0 w) Db (turnS t p y)) → Calls Tryz.prog 16 #[.pointer (some ⟨Db, 0, none⟩), .string v1B] W fun e w' => e = .returned (.tuple #[.pointer none, .int .i64 24]) ∧ Hid (Below w.heap.size w w')) := fun W h => turn_open hTF.out h.out
            have cv0 : (convert 61 9 (.slice (some ⟨M, 0, none⟩) 1 1)).run Tryz.prog (wn.alloc (.cells #[.int .u8 (y.toNat : Int)] 5)).drew = .ok (.string Ys) (wn.alloc (.cells #[.int .u8 (y.toNat : Int)] 5)).drew := hcv.out _ M (hM ▸ heap_alloc_new wn _)
            have cv0b : (convert 61 9 (.slice (some ⟨M, 0, none⟩) 1 1)).run Tryz.prog (wn.drew.alloc (.cells #[.int .u8 (y.toNat : Int)] 5)) = .ok (.string Ys) (wn.drew.alloc (.cells #[.int .u8 (y.toNat : Int)] 5)) := hcv.out _ M (hM ▸ heap_alloc_new wn _)
            have cv0c : (convert 61 9 (.slice (some ⟨wn.heap.size, 0, none⟩) 1 1)).run Tryz.prog (wn.drew.alloc (.cells #[.int .u8 (y.toNat : Int)] 5)) = .ok (.string Ys) (wn.drew.alloc (.cells #[.int .u8 (y.toNat : Int)] 5)) := hcv.out _ wn.heap.size (heap_alloc_new wn _)
            have B0 : Hid (Below wn.heap.size wn wn.drew) := (Below.refl _ _).drew
            have B1 : Hid (Below wn.heap.size wn (wn.alloc (.cells #[.int .u8 (y.toNat : Int)] 5)).drew) := ((Below.refl _ wn).alloc (Nat.le_refl _) _).drew
            have B2 : Hid (Below wn.heap.size wn ((wn.alloc (.cells #[.int .u8 (y.toNat : Int)] 5)).alloc (.cells #[.string (t.extract 0 p), .string Ys, .string (t.extract (p + 1) t.size)] 9)).drew) := (((Below.refl _ wn).alloc (Nat.le_refl _) _).alloc (by simp) _).drew
            generalize fileB v1B 3 = F3 at *
            go_wp2_with fail
            go_region_held_law (fun _ => True) (trivial) (first
              | (go_at_call 35; refine (h35.out _ _ _ A6.1.out A6.2.out).mono ?_; rintro e w7 ⟨rfl, s7⟩)
              | (go_at_call 36; refine (h36.out _ B2.out).mono ?_; rintro e w6 ⟨rfl, b6⟩; have A6 := hold2 hM B2.out b6)
              | (go_at_call 36; refine (h36.out _ B1.out).mono ?_; rintro e w6 ⟨rfl, b6⟩; have cv6 := hcv.out w6 M (keep1 hM b6); have A6 := hold1 (x := t.extract 0 p) (y := Ys) (z := t.extract (p + 1) t.size) (B1.out.trans (b6.mono B1.out.size)))
              | (go_at_call 36; refine (h36.out _ B0.out).mono ?_; rintro e w6 ⟨rfl, b6⟩; have cv6 := hcv.out (w6.alloc (.cells #[.int .u8 (y.toNat : Int)] 5)) w6.heap.size (heap_alloc_new w6 _); have A6 := hold0 (ob := .cells #[.int .u8 (y.toNat : Int)] 5) (x := t.extract 0 p) (y := Ys) (z := t.extract (p + 1) t.size) (B0.out.trans (b6.mono B0.out.size))))
            all_goals
              go_wp2_with (go_at_call 16; refine (h16.out _ s7).mono ?_; rintro e w8 ⟨rfl, s8⟩)
              go_ret
              exact ⟨rfl, s8.out⟩
          · have h0' : (((yb : Nat) : Int) == 0) = false := beq_eq_false_iff_ne.2 (by omega)
            have h0'' : ¬ ((yb : Nat) : Int) = 0 := by omega
            go_wp2_with (go_at_call 29; refine h29.out.mono ?_; rintro e wn ⟨rfl, sn⟩)
            obtain ⟨Db, hDb⟩ : ∃ Db, wr.heap.size = Db := ⟨_, rfl⟩
            rw [hDb] at sn ⊢
            obtain ⟨M, hM⟩ : ∃ M, wn.heap.size = M := ⟨_, rfl⟩
            have h36 : Hid (∀ W, Below wn.heap.size wn W → Calls Tryz.prog 36 #[.string v1B, .int .i64 3] W fun e w' => e = .returned (.string (fileB v1B 3)) ∧ Below W.heap.size W w') := fun W hW => file_ok (lo0 w) v1B aCap 3 (by decide) (by decide) W (Nat.le_trans sn.out.sz hW.size) (sn.out.tab.on (hW.mono sn.out.sz))
            have h35 : Hid (∀ W g c, Below wn.heap.size wn W → Holds W g [.string (t.extract 0 p), .string Ys, .string (t.extract (p + 1) t.size)] 9 → Calls Tryz.prog 35 #[.pointer (some ⟨Db, 0, none⟩), .string (fileB v1B 3), .slice (some ⟨g, 0, none⟩) 3 c] W fun e w' => e = .returned (.int .i64 0) ∧ Hid (DCur w w' (lo0 w) Db (turnS t p y))) := fun W g c hW hg => turn_append (sn.out.belowT hW) ht (by rw [hYs.out]; exact hg)
            have h16 : Hid (∀ W, Hid (DCur w W (lo0 w) Db (turnS t p y)) → Calls Tryz.prog 16 #[.pointer (some ⟨Db, 0, none⟩), .string v1B] W fun e w' => e = .returned (.tuple #[.pointer none, .int .i64 24]) ∧ Hid (Below w.heap.size w w')) := fun W h => turn_open hTF.out h.out
            have cv0 : (convert 61 9 (.slice (some ⟨M, 0, none⟩) 1 1)).run Tryz.prog (wn.alloc (.cells #[.int .u8 (y.toNat : Int)] 5)).drew = .ok (.string Ys) (wn.alloc (.cells #[.int .u8 (y.toNat : Int)] 5)).drew := hcv.out _ M (hM ▸ heap_alloc_new wn _)
            have cv0b : (convert 61 9 (.slice (some ⟨M, 0, none⟩) 1 1)).run Tryz.prog (wn.drew.alloc (.cells #[.int .u8 (y.toNat : Int)] 5)) = .ok (.string Ys) (wn.drew.alloc (.cells #[.int .u8 (y.toNat : Int)] 5)) := hcv.out _ M (hM ▸ heap_alloc_new wn _)
            have cv0c : (convert 61 9 (.slice (some ⟨wn.heap.size, 0, none⟩) 1 1)).run Tryz.prog (wn.drew.alloc (.cells #[.int .u8 (y.toNat : Int)] 5)) = .ok (.string Ys) (wn.drew.alloc (.cells #[.int .u8 (y.toNat : Int)] 5)) := hcv.out _ wn.heap.size (heap_alloc_new wn _)
            have B0 : Hid (Below wn.heap.size wn wn.drew) := (Below.refl _ _).drew
            have B1 : Hid (Below wn.heap.size wn (wn.alloc (.cells #[.int .u8 (y.toNat : Int)] 5)).drew) := ((Below.refl _ wn).alloc (Nat.le_refl _) _).drew
            have B2 : Hid (Below wn.heap.size wn ((wn.alloc (.cells #[.int .u8 (y.toNat : Int)] 5)).alloc (.cells #[.string (t.extract 0 p), .string Ys, .string (t.extract (p + 1) t.size)] 9)).drew) := (((Below.refl _ wn).alloc (Nat.le_refl _) _).alloc (by simp) _).drew
            generalize fileB v1B 3 = F3 at *
            go_wp2_with fail
            go_region_held_law (fun _ => True) (trivial) (first
              | (go_at_call 35; refine (h35.out _ _ _ A6.1.out A6.2.out).mono ?_; rintro e w7 ⟨rfl, s7⟩)
              | (go_at_call 36; refine (h36.out _ B2.out).mono ?_; rintro e w6 ⟨rfl, b6⟩; have A6 := hold2 hM B2.out b6)
              | (go_at_call 36; refine (h36.out _ B1.out).mono ?_; rintro e w6 ⟨rfl, b6⟩; have cv6 := hcv.out w6 M (keep1 hM b6); have A6 := hold1 (x := t.extract 0 p) (y := Ys) (z := t.extract (p + 1) t.size) (B1.out.trans (b6.mono B1.out.size)))
              | (go_at_call 36; refine (h36.out _ B0.out).mono ?_; rintro e w6 ⟨rfl, b6⟩; have cv6 := hcv.out (w6.alloc (.cells #[.int .u8 (y.toNat : Int)] 5)) w6.heap.size (heap_alloc_new w6 _); have A6 := hold0 (ob := .cells #[.int .u8 (y.toNat : Int)] 5) (x := t.extract 0 p) (y := Ys) (z := t.extract (p + 1) t.size) (B0.out.trans (b6.mono B0.out.size))))
            all_goals
              go_wp2_with (go_at_call 16; refine (h16.out _ s7).mono ?_; rintro e w8 ⟨rfl, s8⟩)
              go_ret
              exact ⟨rfl, s8.out⟩
end Go.Proofs.YtfmmholkeadejaaGreatDoor
