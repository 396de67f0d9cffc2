/- CaskTwo (6): the walk. -/
import Derived.Deep.RegionHeld3
import Derived.Test.YtfmmholkeadejaaGreatDoorZLast
import Derived.Test.YtfmmholkeadejaaGreatDoorZCkTwo
namespace Go.Proofs.YtfmmholkeadejaaGreatDoor
open Go.RowKit

/-- A slice of bools that came in. -/
def InB (w : World) (a : Option Addr) (l : List Bool) : Prop := l ≠ [] → ∃ b o, a = some ⟨b, o, none⟩ ∧ b < w.heap.size ∧ ∀ i c, l[i]? = some c → w.cell? ⟨b, o + i, none⟩ = some (.bool c)
/-- Between two rounds. -/
def TR (w : World) (d c1 c2 : Nat) (one two : List Ch) (i : Nat) (W : World) (a1 : Option Addr) (m1 q1 : Nat) (a2 : Option Addr) (m2 q2 : Nat) : Prop := m1 = one.length ∧ m1 ≤ i ∧ m2 = two.length ∧ m2 ≤ i ∧ TwoI w vB vxB d c1 c2 one two one two i W (.slice a1 m1 q1) (.slice a2 m2 q2)
theorem two_app1 {w W W' : World} {d c1 c2 i m1 q1 m2 q2 m' q' : Nat} {a1 a2 a' : Option Addr} {one two : List Ch} {ch : Ch} {ob : Obj} (hm1 : m1 = one.length) (hi1 : m1 ≤ i) (hm2 : m2 = two.length) (hi2 : m2 ≤ i) (h : TwoI w vB vxB d c1 c2 (one ++ [ch]) two one two (i + 1) W (.slice a1 m1 q1) (.slice a2 m2 q2)) (hg : (W.alloc ob).grownBy W' (Value.slice a1 m1 q1).ownBlock)
    (ho : W'.ownsRow w.heap.size 52 3 (.slice a' m' q') (m1 + 1) (rowI one ++ [.string ch.k, .string ch.v, .bool ch.dead])) (hl : (Value.slice a' m' q').ownBlock = (Value.slice a1 m1 q1).ownBlock ∨ (Value.slice a' m' q').ownBlock = some (W.alloc ob).heap.size) : Hid (TR w d c1 c2 (one ++ [ch]) two (i + 1) W' a' m' q' a2 m2 q2) := by
  have e := row_n ho
  rw [hm1] at ho
  exact ⟨by rw [e, hm1]; simp, by omega, hm2, by omega, two_more (h.below ((Below.refl W.heap.size W).alloc (Nat.le_refl _) ob)) hg rfl ho hl⟩
theorem two_app2 {w W W' : World} {d c1 c2 i m1 q1 m2 q2 m' q' : Nat} {a1 a2 a' : Option Addr} {one two : List Ch} {ch : Ch} {ob : Obj} (hm1 : m1 = one.length) (hi1 : m1 ≤ i) (hm2 : m2 = two.length) (hi2 : m2 ≤ i) (h : TwoI w vB vxB d c1 c2 one (two ++ [ch]) one two (i + 1) W (.slice a1 m1 q1) (.slice a2 m2 q2)) (hg : (W.alloc ob).grownBy W' (Value.slice a2 m2 q2).ownBlock)
    (ho : W'.ownsRow w.heap.size 52 3 (.slice a' m' q') (m2 + 1) (rowI two ++ [.string ch.k, .string ch.v, .bool ch.dead])) (hl : (Value.slice a' m' q').ownBlock = (Value.slice a2 m2 q2).ownBlock ∨ (Value.slice a' m' q').ownBlock = some (W.alloc ob).heap.size) : Hid (TR w d c1 c2 one (two ++ [ch]) (i + 1) W' a1 m1 q1 a' m' q') := by
  have e := row_n ho
  rw [hm2] at ho
  exact ⟨hm1, by omega, by rw [e, hm2]; simp, by omega, (two_more (h.swap.below ((Below.refl W.heap.size W).alloc (Nat.le_refl _) ob)) hg rfl ho hl).swap⟩
theorem TwoI.row1 {w W : World} {n1 n2 : ByteArray} {d c1 c2 i : Nat} {chs1 chs2 one two : List Ch} {v1 v2 : Value} (h : TwoI w n1 n2 d c1 c2 chs1 chs2 one two i W v1 v2) : W.ownsRow w.heap.size 52 3 v1 one.length (rowI one) := by
  obtain ⟨N, S, mb1, sv1, K1, mb2, sv2, K2, h⟩ := h
  exact h.rows.r1
set_option maxHeartbeats 8000000 in
set_option maxRecDepth 100000 in
theorem caskTwo_walk (l : List Ch) (a : Option Addr) (cap : Nat) (tl : List Bool) (ta : Option Addr) (tcap : Nat) (hlen : l.length ≤ 9223372036854775807) (w : World) (hT : Tab w.heap.size w) (hl : InC w a l) (htl : InB w ta tl) :
    Calls Tryz.prog 6 #[.slice a l.length cap, .slice ta tl.length tcap] w fun e w' => e = .returned (.bool true) ∧ Below w.heap.size w w' := by
  have hA : Hid (Calls Tryz.prog 17 #[] w fun e w' => e = .returned (.bool true) ∧ Hid (Below w.heap.size w w')) := awake_any w hT
  have h29 : Hid (∀ W, Hid (Below w.heap.size w W) → Calls Tryz.prog 29 #[.int .i64 4194304] W fun e w' => e = .returned (.pointer (some ⟨W.heap.size, 0, none⟩)) ∧ Hid (DCur w w' (lo0 w) W.heap.size (newS 4194304))) := fun W hB => full_new w W hT hB.out 4194304
  have h16a : Hid (∀ W d, Hid (DCur w W (lo0 w) d (newS 4194304)) → Calls Tryz.prog 16 #[.pointer (some ⟨d, 0, none⟩), .string vB] W fun e w' => ∃ c, e = .returned (.tuple #[.pointer (some ⟨c, 0, none⟩), .int .i64 0]) ∧ Hid (MidI w vB vxB d c [] [] [] [] 0 w' (.slice none 0 0) (.slice none 0 0))) := fun W d h => two_first vB vxB vCap h.out
  have h16b : Hid (∀ W d c1 chs1 chs2 one two i v1 v2, i ≤ 256 → Hid (MidI w vB vxB d c1 chs1 chs2 one two i W v1 v2) → Calls Tryz.prog 16 #[.pointer (some ⟨d, 0, none⟩), .string vxB] W fun e w' => ∃ c, e = .returned (.tuple #[.pointer (some ⟨c, 0, none⟩), .int .i64 0]) ∧ Hid (TwoI w vB vxB d c1 c chs1 chs2 one two i w' v1 v2)) := fun W d c1 chs1 chs2 one two i v1 v2 hi h => two_open vxCap h.out hi
  have hl : Hid (InC w a l) := hl
  have htl : Hid (InB w ta tl) := htl
  obtain ⟨i52, hi52, hz0, hz1, hz2⟩ := info_parts info52
  obtain ⟨LN, hLN⟩ : ∃ LN, l.length = LN := ⟨_, rfl⟩
  have hLN : Hid (l.length = LN) := hLN
  obtain ⟨TN, hTN⟩ : ∃ TN, tl.length = TN := ⟨_, rfl⟩
  have hTN : Hid (tl.length = TN) := hTN
  rw [hLN.out] at hlen ⊢
  rw [hTN.out]
  clear hT
  go_enter Tryz.func6, Tryz.ntmps6
  go_wp2_with (first
    | (go_at_call 16; refine (h16b.out _ _ _ _ _ _ _ _ _ _ (by omega) sM).mono ?_; rintro e w2 ⟨c2, rfl, s0⟩)
    | (go_at_call 16; refine (h16a.out _ _ sn).mono ?_; rintro e wm ⟨c1, rfl, sM⟩)
    | (go_at_call 29; refine (h29.out _ sA).mono ?_; rintro e wn ⟨rfl, sn⟩)
    | (go_at_call 17; refine hA.out.mono ?_; rintro e wA ⟨rfl, sA⟩))
  obtain ⟨Db, hDb⟩ : ∃ Db, wA.heap.size = Db := ⟨_, rfl⟩
  rw [hDb] at s0 ⊢
  clear hA h29 h16a sn hDb sA sM
  go_loopw [11, 12, 13] (fun v u p wr => ∃ i : Nat, i ≤ 60 ∧ i ≤ LN ∧ p = .int .i64 (i : Int) ∧ ∃ one two a1 m1 q1 a2 m2 q2, v = .slice a1 m1 q1 ∧ u = .slice a2 m2 q2 ∧ Hid (TR w Db c1 c2 one two i wr a1 m1 q1 a2 m2 q2)) (fun _ _ p _ => LN - (intOf p).toNat)
  case atStart => exact ⟨0, by omega, by omega, rfl, [], [], _, _, _, _, _, _, rfl, rfl, rfl, Nat.le_refl _, rfl, Nat.le_refl _, s0.out⟩
  case round =>
    obtain ⟨i, hi, hiL, rfl, one, two, a1, m1, q1, a2, m2, q2, rfl, rfl, hI⟩ := hrel
    clear s0
    rcases Nat.lt_or_ge i LN with hlt | hge
    · rcases Nat.lt_or_ge i 60 with h60 | h60
      · have hlen' := hLN.out
        have hlent' := hTN.out
        obtain ⟨ch, hch⟩ : ∃ ch, l[i]? = some ch := ⟨_, List.getElem?_eq_getElem (by omega)⟩
        obtain ⟨b, o, rfl, hb, hcells⟩ := hl.out (fun e => by rw [e] at hch; simp at hch)
        obtain ⟨hm10, hi1, hm20, hi2, N, S, mb1, sv1, K1, mb2, sv2, K2, hS⟩ := hI.out
        have hm1 : Hid (m1 = one.length) := hm10
        have hm2 : Hid (m2 = two.length) := hm20
        clear hm10 hm20
        have hcb : Hid (∀ W, Below w.heap.size w W → W.cell? ⟨b, o + i * 3, none⟩ = some (.string ch.k) ∧ W.cell? ⟨b, o + i * 3 + 1, none⟩ = some (.string ch.v)) := fun W hB => by
          obtain ⟨x1, x2, _⟩ := hcells i ch hch
          exact ⟨(hB.cell (p := ⟨b, o + i * 3, none⟩) hb).trans x1, (hB.cell (p := ⟨b, o + i * 3 + 1, none⟩) hb).trans x2⟩
        have hbw : Hid (Below w.heap.size w wr) := hS.bel
        obtain ⟨k1, k2⟩ := hcb.out wr hbw.out
        have g1 : (i : Int) < (LN : Int) := by omega
        have g2 : (0 : Int) ≤ (i : Int) := by omega
        have g3 : (i : Int) < 60 := by omega
        have g4 : IntKind.i64.wrap ((i : Int) + 1) = (i : Int) + 1 := by simp [IntKind.wrap, IntKind.bits, IntKind.signed]; omega
        clear hcells hb hI hlen'
        rcases Nat.lt_or_ge i TN with htn | htn
        · obtain ⟨tb, htb⟩ : ∃ tb, tl[i]? = some tb := ⟨_, List.getElem?_eq_getElem (by omega)⟩
          obtain ⟨bt, ot, rfl, hbt, htc⟩ := htl.out (fun e => by rw [e] at htb; simp at htb)
          have k3 : wr.cell? ⟨bt, ot + i, none⟩ = some (.bool tb) := (hbw.out.cell (p := ⟨bt, ot + i, none⟩) hbt).trans (htc i tb htb)
          have g5 : (i : Int) < (TN : Int) := by omega
          clear htc hbt htb hlent'
          cases tb
          · obtain ⟨E, hE1, hE2⟩ := two_put apart_v hS.swap (by omega) ch.k ch.v
            have hS : Hid _ := hS
            clear hch
            by_cases hE : E = 0
            · subst hE
              have hc18 : Hid (∀ W, Hid (TwoS w vB vxB N Db S c1 mb1 sv1 K1 c2 mb2 sv2 K2 one two one two i W (.slice a1 m1 q1) (.slice a2 m2 q2)) → Calls Tryz.prog 18 #[.pointer (some ⟨c2, 0, none⟩), .string ch.k, .string ch.v] W fun e w' => e = .returned (.int .i64 0) ∧ Hid (TwoI w vB vxB Db c1 c2 one (two ++ [⟨ch.k, ch.v, false⟩]) one two (i + 1) w' (.slice a1 m1 q1) (.slice a2 m2 q2))) := fun W h => (hE1 rfl W _ _ h.out.swap).mono fun _ _ ⟨e1, e2⟩ => ⟨e1, e2.swap⟩
              clear hE1 hE2
              have hSd : Hid (TwoS w vB vxB N Db S c1 mb1 sv1 K1 c2 mb2 sv2 K2 one two one two i wr.drew (.slice a1 m1 q1) (.slice a2 m2 q2)) := hS.out.below ((Below.refl _ wr).drew)
              go_wp2_with fail
              go_region_held3 (fun w' => w'.cell? ⟨b, o + i * 3, none⟩ = some (.string ch.k) ∧ w'.cell? ⟨b, o + i * 3 + 1, none⟩ = some (.string ch.v)) (go_keep) (first | (go_at_call 18; refine (hc18.out _ hSd).mono ?_; rintro e w3 ⟨rfl, s3⟩; obtain ⟨z1, z2⟩ := hcb.out w3 s3.out.bel))
              go_wp2_with fail
              have s3d : Hid (TwoI w vB vxB Db c1 c2 one (two ++ [⟨ch.k, ch.v, false⟩]) one two (i + 1) w3.drew (.slice a1 m1 q1) (.slice a2 m2 q2)) := s3.out.below ((Below.refl _ w3).drew)
              have W3R : Hid (w3.drew.ownsRow w.heap.size 52 3 (.slice a2 m2 q2) m2 (rowI two)) := by
                have q := s3d.out.swap.row1
                rw [← hm2.out] at q
                exact q
              have mk4 : Hid (∀ g4 cap4 (w4 : World), w4.ownsRow w.heap.size 52 3 (.slice (some ⟨g4, 0, none⟩) (m2 + 1) cap4) (m2 + 1) (rowI two ++ [.string ch.k, .string ch.v, .bool false]) → (w3.drew.alloc (.cells #[.string ch.k, .string ch.v, .bool false] 52)).grownBy w4 (Value.slice a2 m2 q2).ownBlock → ((Value.slice a2 m2 q2).ownBlock = some g4 ∨ g4 = w3.heap.size + 1) → Hid (TR w Db c1 c2 one (two ++ [⟨ch.k, ch.v, false⟩]) (i + 1) w4 a1 m1 q1 (some ⟨g4, 0, none⟩) (m2 + 1) cap4)) := fun g4 cap4 w4 ho hg hl =>
                two_app2 (ch := ⟨ch.k, ch.v, false⟩) hm1.out hi1 hm2.out hi2 s3d.out hg ho (hl.imp (fun q => q.symm) (fun q => by rw [q]; simp [Value.ownBlock]))
              obtain ⟨y5, y6⟩ := hcb.out (w3.drew.alloc (.cells #[.string ch.k, .string ch.v, .bool false] 52)) (s3d.out.bel.alloc s3d.out.bel.size _)
              have hbs : w.heap.size ≤ (w3.drew.alloc (.cells #[.string ch.k, .string ch.v, .bool false] 52)).heap.size := (s3d.out.bel.alloc s3d.out.bel.size (.cells #[.string ch.k, .string ch.v, .bool false] 52)).size
              clear s3
              go_region_held3 (fun w' => w'.cell? ⟨b, o + i * 3, none⟩ = some (.string ch.k) ∧ w'.cell? ⟨b, o + i * 3 + 1, none⟩ = some (.string ch.v)) (go_keep) (first | (refine step_append_lies _ rfl _ _ 48 rfl w.heap.size 52 i52 (.agg #[.string ⟨#[]⟩, .string ⟨#[]⟩, .bool false]) 3 40 Tryz.underlying48 hi52 hz0 hz1 hz2 rfl (by decide) (.slice a2 m2 q2) m2 (rowI two) rfl (W3R.out.alloc _) ⟨w3.heap.size, 0, none⟩ 1 1 [.string ch.k, .string ch.v, .bool false] rfl rfl (new_three w3.drew ch.k ch.v false) (by simp [Value.oneCell']) (by decide) (by unfold maxLen; omega) (by omega) hbs (w3.heap.size + 1) (by simp) ?_; intro g4 cap4 w4 own4 grow4 loc4 lt4; have s4 := mk4.out _ _ _ own4 grow4 loc4; obtain ⟨y1, y2⟩ := hcb.out w4 s4.out.2.2.2.2.bel; clear own4 grow4 loc4 lt4))
              go_wp2
              go_roundw
              case rel => exact ⟨i + 1, by omega, by omega, by simp, _, _, _, _, _, _, _, _, rfl, rfl, s4⟩
              case measure => simp; omega
            · have hc18 : Hid (∀ W, Hid (TwoS w vB vxB N Db S c1 mb1 sv1 K1 c2 mb2 sv2 K2 one two one two i W (.slice a1 m1 q1) (.slice a2 m2 q2)) → Calls Tryz.prog 18 #[.pointer (some ⟨c2, 0, none⟩), .string ch.k, .string ch.v] W fun e w' => e = .returned (.int .i64 E) ∧ Hid (TwoI w vB vxB Db c1 c2 one two one two (i + 1) w' (.slice a1 m1 q1) (.slice a2 m2 q2))) := fun W h => (hE2 hE W _ _ h.out.swap).mono fun _ _ ⟨e1, e2⟩ => ⟨e1, e2.swap⟩
              clear hE1 hE2
              have hE3 : (E == 0) = false := beq_eq_false_iff_ne.2 hE
              have hSd : Hid (TwoS w vB vxB N Db S c1 mb1 sv1 K1 c2 mb2 sv2 K2 one two one two i wr.drew (.slice a1 m1 q1) (.slice a2 m2 q2)) := hS.out.below ((Below.refl _ wr).drew)
              go_wp2_with fail
              go_region_held3 (fun w' => w'.cell? ⟨b, o + i * 3, none⟩ = some (.string ch.k) ∧ w'.cell? ⟨b, o + i * 3 + 1, none⟩ = some (.string ch.v)) (go_keep) (first | (go_at_call 18; refine (hc18.out _ hSd).mono ?_; rintro e w3 ⟨rfl, s3⟩; obtain ⟨z1, z2⟩ := hcb.out w3 s3.out.bel))
              go_wp2
              go_roundw
              case rel => exact ⟨i + 1, by omega, by omega, by simp, _, _, _, _, _, _, _, _, rfl, rfl, ⟨hm1.out, by omega, hm2.out, by omega, s3.out⟩⟩
              case measure => simp; omega
          · obtain ⟨E, hE1, hE2⟩ := two_put apart_vx hS (by omega) ch.k ch.v
            have hS : Hid _ := hS
            clear hch
            by_cases hE : E = 0
            · subst hE
              have hc18 : Hid (∀ W, Hid (TwoS w vB vxB N Db S c1 mb1 sv1 K1 c2 mb2 sv2 K2 one two one two i W (.slice a1 m1 q1) (.slice a2 m2 q2)) → Calls Tryz.prog 18 #[.pointer (some ⟨c1, 0, none⟩), .string ch.k, .string ch.v] W fun e w' => e = .returned (.int .i64 0) ∧ Hid (TwoI w vB vxB Db c1 c2 (one ++ [⟨ch.k, ch.v, false⟩]) two one two (i + 1) w' (.slice a1 m1 q1) (.slice a2 m2 q2))) := fun W h => hE1 rfl W _ _ h.out
              clear hE1 hE2
              have hSd : Hid (TwoS w vB vxB N Db S c1 mb1 sv1 K1 c2 mb2 sv2 K2 one two one two i wr.drew (.slice a1 m1 q1) (.slice a2 m2 q2)) := hS.out.below ((Below.refl _ wr).drew)
              go_wp2_with fail
              go_region_held3 (fun w' => w'.cell? ⟨b, o + i * 3, none⟩ = some (.string ch.k) ∧ w'.cell? ⟨b, o + i * 3 + 1, none⟩ = some (.string ch.v)) (go_keep) (first | (go_at_call 18; refine (hc18.out _ hSd).mono ?_; rintro e w3 ⟨rfl, s3⟩; obtain ⟨z1, z2⟩ := hcb.out w3 s3.out.bel))
              go_wp2_with fail
              have s3d : Hid (TwoI w vB vxB Db c1 c2 (one ++ [⟨ch.k, ch.v, false⟩]) two one two (i + 1) w3.drew (.slice a1 m1 q1) (.slice a2 m2 q2)) := s3.out.below ((Below.refl _ w3).drew)
              have W3R : Hid (w3.drew.ownsRow w.heap.size 52 3 (.slice a1 m1 q1) m1 (rowI one)) := by
                have q := s3d.out.row1
                rw [← hm1.out] at q
                exact q
              have mk4 : Hid (∀ g4 cap4 (w4 : World), w4.ownsRow w.heap.size 52 3 (.slice (some ⟨g4, 0, none⟩) (m1 + 1) cap4) (m1 + 1) (rowI one ++ [.string ch.k, .string ch.v, .bool false]) → (w3.drew.alloc (.cells #[.string ch.k, .string ch.v, .bool false] 52)).grownBy w4 (Value.slice a1 m1 q1).ownBlock → ((Value.slice a1 m1 q1).ownBlock = some g4 ∨ g4 = w3.heap.size + 1) → Hid (TR w Db c1 c2 (one ++ [⟨ch.k, ch.v, false⟩]) two (i + 1) w4 (some ⟨g4, 0, none⟩) (m1 + 1) cap4 a2 m2 q2)) := fun g4 cap4 w4 ho hg hl =>
                two_app1 (ch := ⟨ch.k, ch.v, false⟩) hm1.out hi1 hm2.out hi2 s3d.out hg ho (hl.imp (fun q => q.symm) (fun q => by rw [q]; simp [Value.ownBlock]))
              obtain ⟨y5, y6⟩ := hcb.out (w3.drew.alloc (.cells #[.string ch.k, .string ch.v, .bool false] 52)) (s3d.out.bel.alloc s3d.out.bel.size _)
              have hbs : w.heap.size ≤ (w3.drew.alloc (.cells #[.string ch.k, .string ch.v, .bool false] 52)).heap.size := (s3d.out.bel.alloc s3d.out.bel.size (.cells #[.string ch.k, .string ch.v, .bool false] 52)).size
              clear s3
              go_region_held3 (fun w' => w'.cell? ⟨b, o + i * 3, none⟩ = some (.string ch.k) ∧ w'.cell? ⟨b, o + i * 3 + 1, none⟩ = some (.string ch.v)) (go_keep) (first | (refine step_append_lies _ rfl _ _ 48 rfl w.heap.size 52 i52 (.agg #[.string ⟨#[]⟩, .string ⟨#[]⟩, .bool false]) 3 40 Tryz.underlying48 hi52 hz0 hz1 hz2 rfl (by decide) (.slice a1 m1 q1) m1 (rowI one) rfl (W3R.out.alloc _) ⟨w3.heap.size, 0, none⟩ 1 1 [.string ch.k, .string ch.v, .bool false] rfl rfl (new_three w3.drew ch.k ch.v false) (by simp [Value.oneCell']) (by decide) (by unfold maxLen; omega) (by omega) hbs (w3.heap.size + 1) (by simp) ?_; intro g4 cap4 w4 own4 grow4 loc4 lt4; have s4 := mk4.out _ _ _ own4 grow4 loc4; obtain ⟨y1, y2⟩ := hcb.out w4 s4.out.2.2.2.2.bel; clear own4 grow4 loc4 lt4))
              go_wp2
              go_roundw
              case rel => exact ⟨i + 1, by omega, by omega, by simp, _, _, _, _, _, _, _, _, rfl, rfl, s4⟩
              case measure => simp; omega
            · have hc18 : Hid (∀ W, Hid (TwoS w vB vxB N Db S c1 mb1 sv1 K1 c2 mb2 sv2 K2 one two one two i W (.slice a1 m1 q1) (.slice a2 m2 q2)) → Calls Tryz.prog 18 #[.pointer (some ⟨c1, 0, none⟩), .string ch.k, .string ch.v] W fun e w' => e = .returned (.int .i64 E) ∧ Hid (TwoI w vB vxB Db c1 c2 one two one two (i + 1) w' (.slice a1 m1 q1) (.slice a2 m2 q2))) := fun W h => hE2 hE W _ _ h.out
              clear hE1 hE2
              have hE3 : (E == 0) = false := beq_eq_false_iff_ne.2 hE
              have hSd : Hid (TwoS w vB vxB N Db S c1 mb1 sv1 K1 c2 mb2 sv2 K2 one two one two i wr.drew (.slice a1 m1 q1) (.slice a2 m2 q2)) := hS.out.below ((Below.refl _ wr).drew)
              go_wp2_with fail
              go_region_held3 (fun w' => w'.cell? ⟨b, o + i * 3, none⟩ = some (.string ch.k) ∧ w'.cell? ⟨b, o + i * 3 + 1, none⟩ = some (.string ch.v)) (go_keep) (first | (go_at_call 18; refine (hc18.out _ hSd).mono ?_; rintro e w3 ⟨rfl, s3⟩; obtain ⟨z1, z2⟩ := hcb.out w3 s3.out.bel))
              go_wp2
              go_roundw
              case rel => exact ⟨i + 1, by omega, by omega, by simp, _, _, _, _, _, _, _, _, rfl, rfl, ⟨hm1.out, by omega, hm2.out, by omega, s3.out⟩⟩
              case measure => simp; omega
        · have g5 : ¬ (i : Int) < (TN : Int) := by omega
          have g6 : decide ((i : Int) < (TN : Int)) = false := decide_eq_false g5
          clear hlent'
          obtain ⟨E, hE1, hE2⟩ := two_put apart_v hS.swap (by omega) ch.k ch.v
          have hS : Hid _ := hS
          clear hch
          by_cases hE : E = 0
          · subst hE
            have hc18 : Hid (∀ W, Hid (TwoS w vB vxB N Db S c1 mb1 sv1 K1 c2 mb2 sv2 K2 one two one two i W (.slice a1 m1 q1) (.slice a2 m2 q2)) → Calls Tryz.prog 18 #[.pointer (some ⟨c2, 0, none⟩), .string ch.k, .string ch.v] W fun e w' => e = .returned (.int .i64 0) ∧ Hid (TwoI w vB vxB Db c1 c2 one (two ++ [⟨ch.k, ch.v, false⟩]) one two (i + 1) w' (.slice a1 m1 q1) (.slice a2 m2 q2))) := fun W h => (hE1 rfl W _ _ h.out.swap).mono fun _ _ ⟨e1, e2⟩ => ⟨e1, e2.swap⟩
            clear hE1 hE2
            have hSd : Hid (TwoS w vB vxB N Db S c1 mb1 sv1 K1 c2 mb2 sv2 K2 one two one two i wr.drew (.slice a1 m1 q1) (.slice a2 m2 q2)) := hS.out.below ((Below.refl _ wr).drew)
            go_wp2_with fail
            go_region_held3 (fun w' => w'.cell? ⟨b, o + i * 3, none⟩ = some (.string ch.k) ∧ w'.cell? ⟨b, o + i * 3 + 1, none⟩ = some (.string ch.v)) (go_keep) (first | (go_at_call 18; refine (hc18.out _ hSd).mono ?_; rintro e w3 ⟨rfl, s3⟩; obtain ⟨z1, z2⟩ := hcb.out w3 s3.out.bel))
            go_wp2_with fail
            have s3d : Hid (TwoI w vB vxB Db c1 c2 one (two ++ [⟨ch.k, ch.v, false⟩]) one two (i + 1) w3.drew (.slice a1 m1 q1) (.slice a2 m2 q2)) := s3.out.below ((Below.refl _ w3).drew)
            have W3R : Hid (w3.drew.ownsRow w.heap.size 52 3 (.slice a2 m2 q2) m2 (rowI two)) := by
              have q := s3d.out.swap.row1
              rw [← hm2.out] at q
              exact q
            have mk4 : Hid (∀ g4 cap4 (w4 : World), w4.ownsRow w.heap.size 52 3 (.slice (some ⟨g4, 0, none⟩) (m2 + 1) cap4) (m2 + 1) (rowI two ++ [.string ch.k, .string ch.v, .bool false]) → (w3.drew.alloc (.cells #[.string ch.k, .string ch.v, .bool false] 52)).grownBy w4 (Value.slice a2 m2 q2).ownBlock → ((Value.slice a2 m2 q2).ownBlock = some g4 ∨ g4 = w3.heap.size + 1) → Hid (TR w Db c1 c2 one (two ++ [⟨ch.k, ch.v, false⟩]) (i + 1) w4 a1 m1 q1 (some ⟨g4, 0, none⟩) (m2 + 1) cap4)) := fun g4 cap4 w4 ho hg hl =>
              two_app2 (ch := ⟨ch.k, ch.v, false⟩) hm1.out hi1 hm2.out hi2 s3d.out hg ho (hl.imp (fun q => q.symm) (fun q => by rw [q]; simp [Value.ownBlock]))
            obtain ⟨y5, y6⟩ := hcb.out (w3.drew.alloc (.cells #[.string ch.k, .string ch.v, .bool false] 52)) (s3d.out.bel.alloc s3d.out.bel.size _)
            have hbs : w.heap.size ≤ (w3.drew.alloc (.cells #[.string ch.k, .string ch.v, .bool false] 52)).heap.size := (s3d.out.bel.alloc s3d.out.bel.size (.cells #[.string ch.k, .string ch.v, .bool false] 52)).size
            clear s3
            go_region_held3 (fun w' => w'.cell? ⟨b, o + i * 3, none⟩ = some (.string ch.k) ∧ w'.cell? ⟨b, o + i * 3 + 1, none⟩ = some (.string ch.v)) (go_keep) (first | (refine step_append_lies _ rfl _ _ 48 rfl w.heap.size 52 i52 (.agg #[.string ⟨#[]⟩, .string ⟨#[]⟩, .bool false]) 3 40 Tryz.underlying48 hi52 hz0 hz1 hz2 rfl (by decide) (.slice a2 m2 q2) m2 (rowI two) rfl (W3R.out.alloc _) ⟨w3.heap.size, 0, none⟩ 1 1 [.string ch.k, .string ch.v, .bool false] rfl rfl (new_three w3.drew ch.k ch.v false) (by simp [Value.oneCell']) (by decide) (by unfold maxLen; omega) (by omega) hbs (w3.heap.size + 1) (by simp) ?_; intro g4 cap4 w4 own4 grow4 loc4 lt4; have s4 := mk4.out _ _ _ own4 grow4 loc4; obtain ⟨y1, y2⟩ := hcb.out w4 s4.out.2.2.2.2.bel; clear own4 grow4 loc4 lt4))
            go_wp2
            go_roundw
            case rel => exact ⟨i + 1, by omega, by omega, by simp, _, _, _, _, _, _, _, _, rfl, rfl, s4⟩
            case measure => simp; omega
          · have hc18 : Hid (∀ W, Hid (TwoS w vB vxB N Db S c1 mb1 sv1 K1 c2 mb2 sv2 K2 one two one two i W (.slice a1 m1 q1) (.slice a2 m2 q2)) → Calls Tryz.prog 18 #[.pointer (some ⟨c2, 0, none⟩), .string ch.k, .string ch.v] W fun e w' => e = .returned (.int .i64 E) ∧ Hid (TwoI w vB vxB Db c1 c2 one two one two (i + 1) w' (.slice a1 m1 q1) (.slice a2 m2 q2))) := fun W h => (hE2 hE W _ _ h.out.swap).mono fun _ _ ⟨e1, e2⟩ => ⟨e1, e2.swap⟩
            clear hE1 hE2
            have hE3 : (E == 0) = false := beq_eq_false_iff_ne.2 hE
            have hSd : Hid (TwoS w vB vxB N Db S c1 mb1 sv1 K1 c2 mb2 sv2 K2 one two one two i wr.drew (.slice a1 m1 q1) (.slice a2 m2 q2)) := hS.out.below ((Below.refl _ wr).drew)
            go_wp2_with fail
            go_region_held3 (fun w' => w'.cell? ⟨b, o + i * 3, none⟩ = some (.string ch.k) ∧ w'.cell? ⟨b, o + i * 3 + 1, none⟩ = some (.string ch.v)) (go_keep) (first | (go_at_call 18; refine (hc18.out _ hSd).mono ?_; rintro e w3 ⟨rfl, s3⟩; obtain ⟨z1, z2⟩ := hcb.out w3 s3.out.bel))
            go_wp2
            go_roundw
            case rel => exact ⟨i + 1, by omega, by omega, by simp, _, _, _, _, _, _, _, _, rfl, rfl, ⟨hm1.out, by omega, hm2.out, by omega, s3.out⟩⟩
            case measure => simp; omega
      · have g1 : (i : Int) < (LN : Int) := by omega
        have g3 : ¬ (i : Int) < 60 := by omega
        have g5 : decide ((i : Int) < 60) = false := decide_eq_false g3
        have h16c : Hid (∀ W, Hid (TR w Db c1 c2 one two i W a1 m1 q1 a2 m2 q2) → Calls Tryz.prog 16 #[.pointer (some ⟨Db, 0, none⟩), .string vB] W fun e w' => ∃ c, e = .returned (.tuple #[.pointer (some ⟨c, 0, none⟩), .int .i64 0]) ∧ Hid (MidI w vB vxB Db c one two one two i w' (.slice a1 m1 q1) (.slice a2 m2 q2))) := fun W h => two_again vCap h.out.2.2.2.2 (by omega)
        have h16d : Hid (∀ W c, Hid (MidI w vB vxB Db c one two one two i W (.slice a1 m1 q1) (.slice a2 m2 q2)) → Calls Tryz.prog 16 #[.pointer (some ⟨Db, 0, none⟩), .string vxB] W fun e w' => ∃ c2, e = .returned (.tuple #[.pointer (some ⟨c2, 0, none⟩), .int .i64 0]) ∧ Hid (TwoI w vB vxB Db c c2 one two one two i w' (.slice a1 m1 q1) (.slice a2 m2 q2))) := fun W c h => two_open vxCap h.out (by omega)
        have hn1 : Hid (one.length ≤ 1000) := by show _ ≤ _; have := hI.out.1; have := hI.out.2.1; omega
        have hn2 : Hid (two.length ≤ 1000) := by show _ ≤ _; have := hI.out.2.2.1; have := hI.out.2.2.2.1; omega
        have h23a : Hid (∀ W c3 c4, Hid (TwoI w vB vxB Db c3 c4 one two one two i W (.slice a1 m1 q1) (.slice a2 m2 q2)) → Calls Tryz.prog 23 #[.pointer (some ⟨c3, 0, none⟩)] W fun e w' => ∃ a n q, e = .returned (.slice a n q) ∧ Hid (TwoI w vB vxB Db c3 c4 one two one two i w' (.slice a1 m1 q1) (.slice a2 m2 q2) ∧ w'.ownsRow w.heap.size 103 2 (.slice a n q) (kvL (kvOf one)).length (cellsP (kvL (kvOf one))))) := fun W c3 c4 h => two_fold h.out
        have h33a : Hid (∀ W c3 c4 u, Hid (TwoI w vB vxB Db c3 c4 one two one two i W (.slice a1 m1 q1) (.slice a2 m2 q2) ∧ W.ownsRow w.heap.size 103 2 u (kvL (kvOf one)).length (cellsP (kvL (kvOf one)))) → Calls Tryz.prog 33 #[.slice a1 m1 q1] W fun e w' => ∃ a n q, e = .returned (.slice a n q) ∧ Hid (TwoI w vB vxB Db c3 c4 one two one two i w' (.slice a1 m1 q1) (.slice a2 m2 q2) ∧ w'.ownsRow w.heap.size 103 2 (.slice a n q) (kvL (kvOf one)).length (cellsP (kvL (kvOf one))) ∧ w'.ownsRow w.heap.size 103 2 u (kvL (kvOf one)).length (cellsP (kvL (kvOf one))))) := fun W c3 c4 u h => two_rfold h.out hn1.out
        have h32a : Hid (∀ W c3 c4 u x, Hid (TwoI w vB vxB Db c3 c4 one two one two i W (.slice a1 m1 q1) (.slice a2 m2 q2) ∧ W.ownsRow w.heap.size 103 2 x (kvL (kvOf one)).length (cellsP (kvL (kvOf one))) ∧ W.ownsRow w.heap.size 103 2 u (kvL (kvOf one)).length (cellsP (kvL (kvOf one)))) → Calls Tryz.prog 32 #[u, x] W fun e w' => e = .returned (.bool true) ∧ Hid (TwoI w vxB vB Db c4 c3 two one two one i w' (.slice a2 m2 q2) (.slice a1 m1 q1))) := fun W c3 c4 u x h => (two_same h.out hn1.out).mono fun _ _ ⟨e1, e2⟩ => ⟨e1, e2.swap⟩
        have h23b : Hid (∀ W c3 c4, Hid (TwoI w vxB vB Db c4 c3 two one two one i W (.slice a2 m2 q2) (.slice a1 m1 q1)) → Calls Tryz.prog 23 #[.pointer (some ⟨c4, 0, none⟩)] W fun e w' => ∃ a n q, e = .returned (.slice a n q) ∧ Hid (TwoI w vxB vB Db c4 c3 two one two one i w' (.slice a2 m2 q2) (.slice a1 m1 q1) ∧ w'.ownsRow w.heap.size 103 2 (.slice a n q) (kvL (kvOf two)).length (cellsP (kvL (kvOf two))))) := fun W c3 c4 h => two_fold h.out
        have h33b : Hid (∀ W c3 c4 u, Hid (TwoI w vxB vB Db c4 c3 two one two one i W (.slice a2 m2 q2) (.slice a1 m1 q1) ∧ W.ownsRow w.heap.size 103 2 u (kvL (kvOf two)).length (cellsP (kvL (kvOf two)))) → Calls Tryz.prog 33 #[.slice a2 m2 q2] W fun e w' => ∃ a n q, e = .returned (.slice a n q) ∧ Hid (TwoI w vxB vB Db c4 c3 two one two one i w' (.slice a2 m2 q2) (.slice a1 m1 q1) ∧ w'.ownsRow w.heap.size 103 2 (.slice a n q) (kvL (kvOf two)).length (cellsP (kvL (kvOf two))) ∧ w'.ownsRow w.heap.size 103 2 u (kvL (kvOf two)).length (cellsP (kvL (kvOf two))))) := fun W c3 c4 u h => two_rfold h.out hn2.out
        have h32b : Hid (∀ W c3 c4 u x, Hid (TwoI w vxB vB Db c4 c3 two one two one i W (.slice a2 m2 q2) (.slice a1 m1 q1) ∧ W.ownsRow w.heap.size 103 2 x (kvL (kvOf two)).length (cellsP (kvL (kvOf two))) ∧ W.ownsRow w.heap.size 103 2 u (kvL (kvOf two)).length (cellsP (kvL (kvOf two)))) → Calls Tryz.prog 32 #[u, x] W fun e w' => e = .returned (.bool true) ∧ Hid (Below w.heap.size w w')) := fun W c3 c4 u x h => (two_same h.out hn2.out).mono fun _ _ ⟨e1, e2⟩ => ⟨e1, e2.bel⟩
        clear h16b
        go_wp2_with (first
          | (go_at_call 32; refine (h32b.out _ _ _ _ _ t8).mono ?_; rintro e x9 ⟨rfl, t9⟩)
          | (go_at_call 33; refine (h33b.out _ _ _ _ t7).mono ?_; rintro e x8 ⟨a8, n8, q8, rfl, t8⟩)
          | (go_at_call 23; refine (h23b.out _ _ _ t6).mono ?_; rintro e x7 ⟨a7, n7, q7, rfl, t7⟩)
          | (go_at_call 32; refine (h32a.out _ _ _ _ _ t5).mono ?_; rintro e x6 ⟨rfl, t6⟩)
          | (go_at_call 33; refine (h33a.out _ _ _ _ t4).mono ?_; rintro e x5 ⟨a5, n5, q5, rfl, t5⟩)
          | (go_at_call 23; refine (h23a.out _ _ _ t3).mono ?_; rintro e x4 ⟨a4, n4, q4, rfl, t4⟩)
          | (go_at_call 16; refine (h16d.out _ _ t2).mono ?_; rintro e x3 ⟨c4, rfl, t3⟩)
          | (go_at_call 16; refine (h16c.out _ hI).mono ?_; rintro e x2 ⟨c3, rfl, t2⟩))
        go_ret
        exact ⟨rfl, t9.out⟩
    · obtain rfl : i = LN := by omega
      have h16c : Hid (∀ W, Hid (TR w Db c1 c2 one two i W a1 m1 q1 a2 m2 q2) → Calls Tryz.prog 16 #[.pointer (some ⟨Db, 0, none⟩), .string vB] W fun e w' => ∃ c, e = .returned (.tuple #[.pointer (some ⟨c, 0, none⟩), .int .i64 0]) ∧ Hid (MidI w vB vxB Db c one two one two i w' (.slice a1 m1 q1) (.slice a2 m2 q2))) := fun W h => two_again vCap h.out.2.2.2.2 (by omega)
      have h16d : Hid (∀ W c, Hid (MidI w vB vxB Db c one two one two i W (.slice a1 m1 q1) (.slice a2 m2 q2)) → Calls Tryz.prog 16 #[.pointer (some ⟨Db, 0, none⟩), .string vxB] W fun e w' => ∃ c2, e = .returned (.tuple #[.pointer (some ⟨c2, 0, none⟩), .int .i64 0]) ∧ Hid (TwoI w vB vxB Db c c2 one two one two i w' (.slice a1 m1 q1) (.slice a2 m2 q2))) := fun W c h => two_open vxCap h.out (by omega)
      have hn1 : Hid (one.length ≤ 1000) := by show _ ≤ _; have := hI.out.1; have := hI.out.2.1; omega
      have hn2 : Hid (two.length ≤ 1000) := by show _ ≤ _; have := hI.out.2.2.1; have := hI.out.2.2.2.1; omega
      have h23a : Hid (∀ W c3 c4, Hid (TwoI w vB vxB Db c3 c4 one two one two i W (.slice a1 m1 q1) (.slice a2 m2 q2)) → Calls Tryz.prog 23 #[.pointer (some ⟨c3, 0, none⟩)] W fun e w' => ∃ a n q, e = .returned (.slice a n q) ∧ Hid (TwoI w vB vxB Db c3 c4 one two one two i w' (.slice a1 m1 q1) (.slice a2 m2 q2) ∧ w'.ownsRow w.heap.size 103 2 (.slice a n q) (kvL (kvOf one)).length (cellsP (kvL (kvOf one))))) := fun W c3 c4 h => two_fold h.out
      have h33a : Hid (∀ W c3 c4 u, Hid (TwoI w vB vxB Db c3 c4 one two one two i W (.slice a1 m1 q1) (.slice a2 m2 q2) ∧ W.ownsRow w.heap.size 103 2 u (kvL (kvOf one)).length (cellsP (kvL (kvOf one)))) → Calls Tryz.prog 33 #[.slice a1 m1 q1] W fun e w' => ∃ a n q, e = .returned (.slice a n q) ∧ Hid (TwoI w vB vxB Db c3 c4 one two one two i w' (.slice a1 m1 q1) (.slice a2 m2 q2) ∧ w'.ownsRow w.heap.size 103 2 (.slice a n q) (kvL (kvOf one)).length (cellsP (kvL (kvOf one))) ∧ w'.ownsRow w.heap.size 103 2 u (kvL (kvOf one)).length (cellsP (kvL (kvOf one))))) := fun W c3 c4 u h => two_rfold h.out hn1.out
      have h32a : Hid (∀ W c3 c4 u x, Hid (TwoI w vB vxB Db c3 c4 one two one two i W (.slice a1 m1 q1) (.slice a2 m2 q2) ∧ W.ownsRow w.heap.size 103 2 x (kvL (kvOf one)).length (cellsP (kvL (kvOf one))) ∧ W.ownsRow w.heap.size 103 2 u (kvL (kvOf one)).length (cellsP (kvL (kvOf one)))) → Calls Tryz.prog 32 #[u, x] W fun e w' => e = .returned (.bool true) ∧ Hid (TwoI w vxB vB Db c4 c3 two one two one i w' (.slice a2 m2 q2) (.slice a1 m1 q1))) := fun W c3 c4 u x h => (two_same h.out hn1.out).mono fun _ _ ⟨e1, e2⟩ => ⟨e1, e2.swap⟩
      have h23b : Hid (∀ W c3 c4, Hid (TwoI w vxB vB Db c4 c3 two one two one i W (.slice a2 m2 q2) (.slice a1 m1 q1)) → Calls Tryz.prog 23 #[.pointer (some ⟨c4, 0, none⟩)] W fun e w' => ∃ a n q, e = .returned (.slice a n q) ∧ Hid (TwoI w vxB vB Db c4 c3 two one two one i w' (.slice a2 m2 q2) (.slice a1 m1 q1) ∧ w'.ownsRow w.heap.size 103 2 (.slice a n q) (kvL (kvOf two)).length (cellsP (kvL (kvOf two))))) := fun W c3 c4 h => two_fold h.out
      have h33b : Hid (∀ W c3 c4 u, Hid (TwoI w vxB vB Db c4 c3 two one two one i W (.slice a2 m2 q2) (.slice a1 m1 q1) ∧ W.ownsRow w.heap.size 103 2 u (kvL (kvOf two)).length (cellsP (kvL (kvOf two)))) → Calls Tryz.prog 33 #[.slice a2 m2 q2] W fun e w' => ∃ a n q, e = .returned (.slice a n q) ∧ Hid (TwoI w vxB vB Db c4 c3 two one two one i w' (.slice a2 m2 q2) (.slice a1 m1 q1) ∧ w'.ownsRow w.heap.size 103 2 (.slice a n q) (kvL (kvOf two)).length (cellsP (kvL (kvOf two))) ∧ w'.ownsRow w.heap.size 103 2 u (kvL (kvOf two)).length (cellsP (kvL (kvOf two))))) := fun W c3 c4 u h => two_rfold h.out hn2.out
      have h32b : Hid (∀ W c3 c4 u x, Hid (TwoI w vxB vB Db c4 c3 two one two one i W (.slice a2 m2 q2) (.slice a1 m1 q1) ∧ W.ownsRow w.heap.size 103 2 x (kvL (kvOf two)).length (cellsP (kvL (kvOf two))) ∧ W.ownsRow w.heap.size 103 2 u (kvL (kvOf two)).length (cellsP (kvL (kvOf two)))) → Calls Tryz.prog 32 #[u, x] W fun e w' => e = .returned (.bool true) ∧ Hid (Below w.heap.size w w')) := fun W c3 c4 u x h => (two_same h.out hn2.out).mono fun _ _ ⟨e1, e2⟩ => ⟨e1, e2.bel⟩
      clear h16b
      go_wp2_with (first
        | (go_at_call 32; refine (h32b.out _ _ _ _ _ t8).mono ?_; rintro e x9 ⟨rfl, t9⟩)
        | (go_at_call 33; refine (h33b.out _ _ _ _ t7).mono ?_; rintro e x8 ⟨a8, n8, q8, rfl, t8⟩)
        | (go_at_call 23; refine (h23b.out _ _ _ t6).mono ?_; rintro e x7 ⟨a7, n7, q7, rfl, t7⟩)
        | (go_at_call 32; refine (h32a.out _ _ _ _ _ t5).mono ?_; rintro e x6 ⟨rfl, t6⟩)
        | (go_at_call 33; refine (h33a.out _ _ _ _ t4).mono ?_; rintro e x5 ⟨a5, n5, q5, rfl, t5⟩)
        | (go_at_call 23; refine (h23a.out _ _ _ t3).mono ?_; rintro e x4 ⟨a4, n4, q4, rfl, t4⟩)
        | (go_at_call 16; refine (h16d.out _ _ t2).mono ?_; rintro e x3 ⟨c4, rfl, t3⟩)
        | (go_at_call 16; refine (h16c.out _ hI).mono ?_; rintro e x2 ⟨c3, rfl, t2⟩))
      go_ret
      exact ⟨rfl, t9.out⟩
end Go.Proofs.YtfmmholkeadejaaGreatDoor
