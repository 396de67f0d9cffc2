/- SquashOnce (11): the walk. -/
import Derived.Test.YtfmmholkeadejaaGreatDoorZSqOnceC
namespace Go.Proofs.YtfmmholkeadejaaGreatDoor
open Go.RowKit

theorem fewN : Few (newS 1048576) A2 := ⟨fun k f h => (by cases h), (by decide), (by decide)⟩
abbrev bxP (o : Ko) (pa : Option Addr) (PN pq : Nat) : Obj := .cells #[.int .i64 o.kind, .int .i64 o.num, .string o.key, .string o.val, .slice pa PN pq] 84
set_option maxHeartbeats 0 in
set_option maxRecDepth 100000 in
theorem squashOnce_walk (l : List Ko) (hok : ∀ o ∈ l, o.Ok) (a : Option Addr) (cap : Nat) (hlen : l.length ≤ 9223372036854775807) (w : World) (hT : Tab w.heap.size w) (hl : InK w a l) :
    Calls Tryz.prog 11 #[.slice a l.length cap] w fun e w' => e = .returned (.bool true) ∧ Below w.heap.size w w' := by
  have hA : Hid (Calls Tryz.prog 43 #[] w fun e w' => e = .returned (.bool true) ∧ Hid (Below w.heap.size w w')) := awake5_any w hT
  have h29 : Hid (∀ W, Hid (Below w.heap.size w W) → Calls Tryz.prog 29 #[.int .i64 1048576] W fun e w' => e = .returned (.pointer (some ⟨W.heap.size, 0, none⟩)) ∧ Hid (OnD w W.heap.size 0 0 w')) := fun W hB => (full_new w W hT hB.out 1048576).mono fun e w' ⟨e1, e2⟩ => ⟨e1, newS 1048576, 0, ⟨e2, fewN⟩, rfl, .inl ⟨rfl, rfl⟩, Nat.le_refl _, Nat.le_refl _⟩
  have h41 : Hid (∀ W d, Hid (OnD w d 0 0 W) → Calls Tryz.prog 41 #[.pointer (some ⟨d, 0, none⟩), .string cnB] W fun e w' => ∃ k, e = .returned (.tuple #[.pointer (some ⟨k, 0, none⟩), .int .i64 0]) ∧ Hid (OnC w d k 0 0 w')) := fun W d h => (on_new h.out (by omega)).mono fun e w' ⟨k, e1, e2, _⟩ => ⟨k, e1, e2⟩
  have hl : Hid (InK w a l) := hl
  have hok : Hid (∀ o ∈ l, o.Ok) := hok
  obtain ⟨LN, hLN⟩ : ∃ LN, l.length = LN := ⟨_, rfl⟩
  have hLN : Hid (l.length = LN) := hLN
  rw [hLN.out] at hlen ⊢
  clear hT
  go_enter Tryz.func11, Tryz.ntmps11
  go_wp2_with (first
    | (go_at_call 41; refine (h41.out _ _ sn).mono ?_; rintro e w2 ⟨c, rfl, s0⟩)
    | (go_at_call 29; refine (h29.out _ sA).mono ?_; rintro e wn ⟨rfl, sn⟩)
    | (go_at_call 43; refine hA.out.mono ?_; rintro e wA ⟨rfl, sA⟩))
  obtain ⟨Db, hDb⟩ : ∃ Db, wA.heap.size = Db := ⟨_, rfl⟩
  rw [hDb] at s0 ⊢
  clear hA h29 h41 sn hDb sA
  go_loopw [5, 6, 7, 8] (fun cv ev lv p wr => ∃ i : Nat, i ≤ 60 ∧ i ≤ LN ∧ p = .int .i64 (i : Int) ∧ ∃ c L0 : Nat, cv = .pointer (some ⟨c, 0, none⟩) ∧ ev = .int .i64 0 ∧ lv = .int .u64 (L0 : Int) ∧ Hid (OnC w Db c L0 (12800 * i) wr)) (fun _ _ _ p _ => LN - (intOf p).toNat)
  case atStart => exact ⟨0, by omega, by omega, rfl, c, 0, rfl, rfl, rfl, s0⟩
  case round =>
    obtain ⟨i, hi, hiL, rfl, c, L0, rfl, rfl, rfl, hI⟩ := hrel
    clear s0
    rcases Nat.lt_or_ge i LN with hlt | hge
    · rcases Nat.lt_or_ge i 60 with h60 | h60
      · have hlen' := hLN.out
        obtain ⟨o, ho⟩ : ∃ o, l[i]? = some o := ⟨_, List.getElem?_eq_getElem (by omega)⟩
        obtain ⟨b, off, rfl, hb, hcells⟩ := hl.out (fun e => by rw [e] at ho; simp at ho)
        have hoo := hok.out o (List.mem_of_getElem? ho)
        obtain ⟨pa, pq, hc0, hpl, hpm, hpi⟩ := hcells i o ho
        obtain ⟨okind, onum, okey, oval, opk⟩ := o
        obtain ⟨PN, hPN⟩ : ∃ PN, opk.length = PN := ⟨_, rfl⟩
        obtain ⟨k1, k2, k3, k4, k5⟩ := hc0 wr hI.out.bel
        have hpi : Hid (∀ W (N : Lo), N.n = w.heap.size → Below w.heap.size w W → IntsAt W N pa opk) := hpi
        have hnum : -9223372036854775808 ≤ onum ∧ onum < 9223372036854775808 := hoo.num
        have hpks : Hid (∀ p ∈ opk, -9223372036854775808 ≤ p ∧ p < 9223372036854775808) := hoo.picks
        simp only at k1 k2 k3 k4 k5 hpl
        rw [hPN] at k5 hpl
        have hPN : Hid (opk.length = PN) := hPN
        have hpl : Hid (PN ≤ pq) := hpl
        have hpm : Hid (pq ≤ maxLen) := hpm
        have g1 : (i : Int) < (LN : Int) := by omega
        have g2 : (0 : Int) ≤ (i : Int) := by omega
        have g3 : (i : Int) < 60 := by omega
        have g4 : IntKind.i64.wrap ((i : Int) + 1) = (i : Int) + 1 := by simp [IntKind.wrap, IntKind.bits, IntKind.signed]; omega
        obtain ⟨B0, hB0⟩ : ∃ B0, wr.heap.size = B0 := ⟨_, rfl⟩
        have hH0 : Hid (Holds (wr.alloc (bxP ⟨okind, onum, okey, oval, opk⟩ pa PN pq)) B0 [.int .i64 okind, .int .i64 onum, .string okey, .string oval, .slice pa PN pq] 84) := by rw [← hB0]; exact holds_new wr [.int .i64 okind, .int .i64 onum, .string okey, .string oval, .slice pa PN pq] 84
        obtain ⟨t, ht⟩ : ∃ t, Int.tmod okind 3 = t := ⟨_, rfl⟩
        have ht1 : -3 < t ∧ t < 3 := by rw [← ht]; exact ⟨by have := Int.lt_tmod_of_pos okind (b := 3) (by decide); omega, Int.tmod_lt_of_pos okind (by decide)⟩
        have htw : IntKind.i64.wrap t = t := by simp [IntKind.wrap, IntKind.bits, IntKind.signed]; omega
        obtain ⟨s, hs⟩ : ∃ s, Int.tmod onum 6 = s := ⟨_, rfl⟩
        have hs1 : -6 < s ∧ s < 6 := by rw [← hs]; exact ⟨by have := Int.lt_tmod_of_pos onum (b := 6) (by decide); omega, Int.tmod_lt_of_pos onum (by decide)⟩
        have hsr : -9223372036854775808 ≤ s ∧ s < 9223372036854775808 := by omega
        have hsw : IntKind.i64.wrap s = s := by simp [IntKind.wrap, IntKind.bits, IntKind.signed]; omega
        obtain ⟨r, hr⟩ : ∃ r, bits .and .i64 onum 127 = r := ⟨_, rfl⟩
        have hr1 : 0 ≤ r ∧ r ≤ 127 := by rw [← hr]; exact and127 onum
        have hrw : IntKind.i64.wrap (1 + r) = 1 + r := by simp [IntKind.wrap, IntKind.bits, IntKind.signed]; omega
        clear hcells hb hlen' hoo hc0 ho hs1 hnum
        by_cases hv : t = 1
        · as_aux_lemma =>
            subst hv
            have h30 : Hid (Calls Tryz.prog 30 #[.pointer (some ⟨Db, 0, none⟩), .int .i64 s] (wr.alloc (bxP ⟨okind, onum, okey, oval, opk⟩ pa PN pq)) fun e w' => e = .returned (.tuple #[]) ∧ Hid (OnC w Db c L0 (12800 * i + 100 * 0) w') ∧ Hid (Bx (wr.alloc (bxP ⟨okind, onum, okey, oval, opk⟩ pa PN pq)) w')) := on_arm (hI.out.alloc _) s hsr
            clear hI
            go_wp2_with (go_at_call 30; refine h30.out.mono ?_; rintro e w3 ⟨rfl, S5, b3⟩; have H5 : Hid (Holds w3 B0 [.int .i64 okind, .int .i64 onum, .string okey, .string oval, .slice pa PN pq] 84) := b3.out _ _ hH0.out; have x1 := H5.out.at 1 _ rfl)
            go_loopw [7, 10] (fun lv kv wr => ∃ kk L : Nat, (kk : Int) ≤ 1 + r ∧ kv = .int .i64 (kk : Int) ∧ lv = .int .u64 (L : Int) ∧ Hid (OnC w Db c L (12800 * i + 100 * kk) wr) ∧ Hid (Holds wr B0 [.int .i64 okind, .int .i64 onum, .string okey, .string oval, .slice pa PN pq] 84)) (fun _ kv _ => 200 - (intOf kv).toNat)
            case atStart => exact ⟨0, L0, by omega, rfl, rfl, S5, H5⟩
            case round =>
              obtain ⟨kk, L, hkk, rfl, rfl, hJ, hH⟩ := hrel
              clear S5 H5
              have y1 : wr.cell? ⟨B0, 1, none⟩ = some (.int .i64 onum) := hH.out.at 1 _ rfl
              have y2 : IntKind.i64.wrap ((kk : Int) + 1) = (kk : Int) + 1 := by simp [IntKind.wrap, IntKind.bits, IntKind.signed]; omega
              by_cases hlt2 : (kk : Int) < 1 + r
              · rcases on_next hJ.out (by omega) with ⟨n, hn, hcall⟩ | ⟨E, hE, hcall⟩
                · have h42 : Hid (Calls Tryz.prog 42 #[.pointer (some ⟨c, 0, none⟩)] wr fun e w' => e = .returned (.tuple #[.int .u64 (n : Int), .int .i64 0]) ∧ Hid (OnG w Db c n (12800 * i + 100 * kk + 100) w') ∧ Hid (Bx wr w')) := hcall
                  have y3 : ¬ (n : Int) ≤ (L : Int) := by omega
                  clear hcall
                  go_wp2_with (first
                    | (go_at_call 44; refine hle.out.mono ?_; rintro e w7 ⟨rfl, e7⟩; rw [e7]; clear e7)
                    | (go_at_call 42; refine h42.out.mono ?_; rintro e w6 ⟨rfl, s6, b6⟩; obtain ⟨la, y4, hle⟩ := on_leased s6.out; have y5 : (n : Int) ≤ (la : Int) := by omega))
                  go_roundw
                  case rel => exact ⟨kk + 1, n, by omega, by simp, rfl, .inl (by have := s6.out; exact this), b6.out _ _ hH.out⟩
                  case measure => simp; omega
                · have h42 : Hid (Calls Tryz.prog 42 #[.pointer (some ⟨c, 0, none⟩)] wr fun e w' => e = .returned (.tuple #[.int .u64 0, .int .i64 E]) ∧ Hid (OnC w Db c L (12800 * i + 100 * kk + 100) w') ∧ Hid (Bx wr w')) := hcall
                  have y3 : (E == 0) = false := beq_eq_false_iff_ne.2 hE
                  clear hcall hE
                  go_wp2_with (go_at_call 42; refine h42.out.mono ?_; rintro e w6 ⟨rfl, s6, b6⟩)
                  go_roundw
                  case rel => exact ⟨i + 1, by omega, by omega, by simp, c, L, rfl, rfl, rfl, s6.out.mono (by omega)⟩
                  case measure => simp; omega
              · have y3 : decide ((kk : Int) < 1 + r) = false := decide_eq_false hlt2
                go_wp2
                go_roundw
                case rel => exact ⟨i + 1, by omega, by omega, by simp, c, L, rfl, rfl, rfl, hJ.out.mono (by omega)⟩
                case measure => simp; omega
        have n1 : (t == 1) = false := beq_eq_false_iff_ne.2 hv
        clear hv
        by_cases hv : t = -1
        · as_aux_lemma =>
            subst hv
            have h30 : Hid (Calls Tryz.prog 30 #[.pointer (some ⟨Db, 0, none⟩), .int .i64 s] (wr.alloc (bxP ⟨okind, onum, okey, oval, opk⟩ pa PN pq)) fun e w' => e = .returned (.tuple #[]) ∧ Hid (OnC w Db c L0 (12800 * i + 100 * 0) w') ∧ Hid (Bx (wr.alloc (bxP ⟨okind, onum, okey, oval, opk⟩ pa PN pq)) w')) := on_arm (hI.out.alloc _) s hsr
            clear hI
            go_wp2_with (go_at_call 30; refine h30.out.mono ?_; rintro e w3 ⟨rfl, S5, b3⟩; have H5 : Hid (Holds w3 B0 [.int .i64 okind, .int .i64 onum, .string okey, .string oval, .slice pa PN pq] 84) := b3.out _ _ hH0.out; have x1 := H5.out.at 1 _ rfl)
            go_loopw [7, 10] (fun lv kv wr => ∃ kk L : Nat, (kk : Int) ≤ 1 + r ∧ kv = .int .i64 (kk : Int) ∧ lv = .int .u64 (L : Int) ∧ Hid (OnC w Db c L (12800 * i + 100 * kk) wr) ∧ Hid (Holds wr B0 [.int .i64 okind, .int .i64 onum, .string okey, .string oval, .slice pa PN pq] 84)) (fun _ kv _ => 200 - (intOf kv).toNat)
            case atStart => exact ⟨0, L0, by omega, rfl, rfl, S5, H5⟩
            case round =>
              obtain ⟨kk, L, hkk, rfl, rfl, hJ, hH⟩ := hrel
              clear S5 H5
              have y1 : wr.cell? ⟨B0, 1, none⟩ = some (.int .i64 onum) := hH.out.at 1 _ rfl
              have y2 : IntKind.i64.wrap ((kk : Int) + 1) = (kk : Int) + 1 := by simp [IntKind.wrap, IntKind.bits, IntKind.signed]; omega
              by_cases hlt2 : (kk : Int) < 1 + r
              · rcases on_next hJ.out (by omega) with ⟨n, hn, hcall⟩ | ⟨E, hE, hcall⟩
                · have h42 : Hid (Calls Tryz.prog 42 #[.pointer (some ⟨c, 0, none⟩)] wr fun e w' => e = .returned (.tuple #[.int .u64 (n : Int), .int .i64 0]) ∧ Hid (OnG w Db c n (12800 * i + 100 * kk + 100) w') ∧ Hid (Bx wr w')) := hcall
                  have y3 : ¬ (n : Int) ≤ (L : Int) := by omega
                  clear hcall
                  go_wp2_with (first
                    | (go_at_call 44; refine hle.out.mono ?_; rintro e w7 ⟨rfl, e7⟩; rw [e7]; clear e7)
                    | (go_at_call 42; refine h42.out.mono ?_; rintro e w6 ⟨rfl, s6, b6⟩; obtain ⟨la, y4, hle⟩ := on_leased s6.out; have y5 : (n : Int) ≤ (la : Int) := by omega))
                  go_roundw
                  case rel => exact ⟨kk + 1, n, by omega, by simp, rfl, .inl (by have := s6.out; exact this), b6.out _ _ hH.out⟩
                  case measure => simp; omega
                · have h42 : Hid (Calls Tryz.prog 42 #[.pointer (some ⟨c, 0, none⟩)] wr fun e w' => e = .returned (.tuple #[.int .u64 0, .int .i64 E]) ∧ Hid (OnC w Db c L (12800 * i + 100 * kk + 100) w') ∧ Hid (Bx wr w')) := hcall
                  have y3 : (E == 0) = false := beq_eq_false_iff_ne.2 hE
                  clear hcall hE
                  go_wp2_with (go_at_call 42; refine h42.out.mono ?_; rintro e w6 ⟨rfl, s6, b6⟩)
                  go_roundw
                  case rel => exact ⟨i + 1, by omega, by omega, by simp, c, L, rfl, rfl, rfl, s6.out.mono (by omega)⟩
                  case measure => simp; omega
              · have y3 : decide ((kk : Int) < 1 + r) = false := decide_eq_false hlt2
                go_wp2
                go_roundw
                case rel => exact ⟨i + 1, by omega, by omega, by simp, c, L, rfl, rfl, rfl, hJ.out.mono (by omega)⟩
                case measure => simp; omega
        have n2 : (t == -1) = false := beq_eq_false_iff_ne.2 hv
        clear hv
        by_cases hv : t = 2
        · as_aux_lemma =>
            subst hv
            have h31 : Hid (Calls Tryz.prog 31 #[.pointer (some ⟨Db, 0, none⟩), .slice pa PN pq] (wr.alloc (bxP ⟨okind, onum, okey, oval, opk⟩ pa PN pq)) fun e w' => e = .returned (.tuple #[]) ∧ Hid (OnD w Db L0 (12800 * i + 100 * 0) w') ∧ Hid (Bx (wr.alloc (bxP ⟨okind, onum, okey, oval, opk⟩ pa PN pq)) w')) := by
              rw [← hPN.out]
              exact on_crash (hI.out.alloc _) opk hpks.out pa pq (by have := hPN.out; have := hpl.out; omega) hpm.out (fun N hN => hpi.out _ N hN (hI.out.alloc _).bel)
            have h41 : Hid (∀ W, Hid (OnD w Db L0 (12800 * i + 100 * 0) W) → Calls Tryz.prog 41 #[.pointer (some ⟨Db, 0, none⟩), .string cnB] W fun e w' => ∃ k, e = .returned (.tuple #[.pointer (some ⟨k, 0, none⟩), .int .i64 0]) ∧ Hid (OnC w Db k L0 (12800 * i + 100 * 0) w') ∧ Hid (Bx W w')) := fun W h => on_new h.out (by omega)
            clear hI
            go_wp2_with (first
              | (go_at_call 41; refine (h41.out _ s3).mono ?_; rintro e w4 ⟨c, rfl, S5, b4⟩; have H5 : Hid (Holds w4 B0 [.int .i64 okind, .int .i64 onum, .string okey, .string oval, .slice pa PN pq] 84) := b4.out _ _ (b3.out _ _ hH0.out); have x1 := H5.out.at 1 _ rfl)
              | (go_at_call 31; refine h31.out.mono ?_; rintro e w3 ⟨rfl, s3, b3⟩))
            go_loopw [7, 10] (fun lv kv wr => ∃ kk L : Nat, (kk : Int) ≤ 1 + r ∧ kv = .int .i64 (kk : Int) ∧ lv = .int .u64 (L : Int) ∧ Hid (OnC w Db c L (12800 * i + 100 * kk) wr) ∧ Hid (Holds wr B0 [.int .i64 okind, .int .i64 onum, .string okey, .string oval, .slice pa PN pq] 84)) (fun _ kv _ => 200 - (intOf kv).toNat)
            case atStart => exact ⟨0, L0, by omega, rfl, rfl, S5, H5⟩
            case round =>
              obtain ⟨kk, L, hkk, rfl, rfl, hJ, hH⟩ := hrel
              clear S5 H5
              have y1 : wr.cell? ⟨B0, 1, none⟩ = some (.int .i64 onum) := hH.out.at 1 _ rfl
              have y2 : IntKind.i64.wrap ((kk : Int) + 1) = (kk : Int) + 1 := by simp [IntKind.wrap, IntKind.bits, IntKind.signed]; omega
              by_cases hlt2 : (kk : Int) < 1 + r
              · rcases on_next hJ.out (by omega) with ⟨n, hn, hcall⟩ | ⟨E, hE, hcall⟩
                · have h42 : Hid (Calls Tryz.prog 42 #[.pointer (some ⟨c, 0, none⟩)] wr fun e w' => e = .returned (.tuple #[.int .u64 (n : Int), .int .i64 0]) ∧ Hid (OnG w Db c n (12800 * i + 100 * kk + 100) w') ∧ Hid (Bx wr w')) := hcall
                  have y3 : ¬ (n : Int) ≤ (L : Int) := by omega
                  clear hcall
                  go_wp2_with (first
                    | (go_at_call 44; refine hle.out.mono ?_; rintro e w7 ⟨rfl, e7⟩; rw [e7]; clear e7)
                    | (go_at_call 42; refine h42.out.mono ?_; rintro e w6 ⟨rfl, s6, b6⟩; obtain ⟨la, y4, hle⟩ := on_leased s6.out; have y5 : (n : Int) ≤ (la : Int) := by omega))
                  go_roundw
                  case rel => exact ⟨kk + 1, n, by omega, by simp, rfl, .inl (by have := s6.out; exact this), b6.out _ _ hH.out⟩
                  case measure => simp; omega
                · have h42 : Hid (Calls Tryz.prog 42 #[.pointer (some ⟨c, 0, none⟩)] wr fun e w' => e = .returned (.tuple #[.int .u64 0, .int .i64 E]) ∧ Hid (OnC w Db c L (12800 * i + 100 * kk + 100) w') ∧ Hid (Bx wr w')) := hcall
                  have y3 : (E == 0) = false := beq_eq_false_iff_ne.2 hE
                  clear hcall hE
                  go_wp2_with (go_at_call 42; refine h42.out.mono ?_; rintro e w6 ⟨rfl, s6, b6⟩)
                  go_roundw
                  case rel => exact ⟨i + 1, by omega, by omega, by simp, c, L, rfl, rfl, rfl, s6.out.mono (by omega)⟩
                  case measure => simp; omega
              · have y3 : decide ((kk : Int) < 1 + r) = false := decide_eq_false hlt2
                go_wp2
                go_roundw
                case rel => exact ⟨i + 1, by omega, by omega, by simp, c, L, rfl, rfl, rfl, hJ.out.mono (by omega)⟩
                case measure => simp; omega
        have n3 : (t == 2) = false := beq_eq_false_iff_ne.2 hv
        clear hv
        by_cases hv : t = -2
        · as_aux_lemma =>
            subst hv
            have h31 : Hid (Calls Tryz.prog 31 #[.pointer (some ⟨Db, 0, none⟩), .slice pa PN pq] (wr.alloc (bxP ⟨okind, onum, okey, oval, opk⟩ pa PN pq)) fun e w' => e = .returned (.tuple #[]) ∧ Hid (OnD w Db L0 (12800 * i + 100 * 0) w') ∧ Hid (Bx (wr.alloc (bxP ⟨okind, onum, okey, oval, opk⟩ pa PN pq)) w')) := by
              rw [← hPN.out]
              exact on_crash (hI.out.alloc _) opk hpks.out pa pq (by have := hPN.out; have := hpl.out; omega) hpm.out (fun N hN => hpi.out _ N hN (hI.out.alloc _).bel)
            have h41 : Hid (∀ W, Hid (OnD w Db L0 (12800 * i + 100 * 0) W) → Calls Tryz.prog 41 #[.pointer (some ⟨Db, 0, none⟩), .string cnB] W fun e w' => ∃ k, e = .returned (.tuple #[.pointer (some ⟨k, 0, none⟩), .int .i64 0]) ∧ Hid (OnC w Db k L0 (12800 * i + 100 * 0) w') ∧ Hid (Bx W w')) := fun W h => on_new h.out (by omega)
            clear hI
            go_wp2_with (first
              | (go_at_call 41; refine (h41.out _ s3).mono ?_; rintro e w4 ⟨c, rfl, S5, b4⟩; have H5 : Hid (Holds w4 B0 [.int .i64 okind, .int .i64 onum, .string okey, .string oval, .slice pa PN pq] 84) := b4.out _ _ (b3.out _ _ hH0.out); have x1 := H5.out.at 1 _ rfl)
              | (go_at_call 31; refine h31.out.mono ?_; rintro e w3 ⟨rfl, s3, b3⟩))
            go_loopw [7, 10] (fun lv kv wr => ∃ kk L : Nat, (kk : Int) ≤ 1 + r ∧ kv = .int .i64 (kk : Int) ∧ lv = .int .u64 (L : Int) ∧ Hid (OnC w Db c L (12800 * i + 100 * kk) wr) ∧ Hid (Holds wr B0 [.int .i64 okind, .int .i64 onum, .string okey, .string oval, .slice pa PN pq] 84)) (fun _ kv _ => 200 - (intOf kv).toNat)
            case atStart => exact ⟨0, L0, by omega, rfl, rfl, S5, H5⟩
            case round =>
              obtain ⟨kk, L, hkk, rfl, rfl, hJ, hH⟩ := hrel
              clear S5 H5
              have y1 : wr.cell? ⟨B0, 1, none⟩ = some (.int .i64 onum) := hH.out.at 1 _ rfl
              have y2 : IntKind.i64.wrap ((kk : Int) + 1) = (kk : Int) + 1 := by simp [IntKind.wrap, IntKind.bits, IntKind.signed]; omega
              by_cases hlt2 : (kk : Int) < 1 + r
              · rcases on_next hJ.out (by omega) with ⟨n, hn, hcall⟩ | ⟨E, hE, hcall⟩
                · have h42 : Hid (Calls Tryz.prog 42 #[.pointer (some ⟨c, 0, none⟩)] wr fun e w' => e = .returned (.tuple #[.int .u64 (n : Int), .int .i64 0]) ∧ Hid (OnG w Db c n (12800 * i + 100 * kk + 100) w') ∧ Hid (Bx wr w')) := hcall
                  have y3 : ¬ (n : Int) ≤ (L : Int) := by omega
                  clear hcall
                  go_wp2_with (first
                    | (go_at_call 44; refine hle.out.mono ?_; rintro e w7 ⟨rfl, e7⟩; rw [e7]; clear e7)
                    | (go_at_call 42; refine h42.out.mono ?_; rintro e w6 ⟨rfl, s6, b6⟩; obtain ⟨la, y4, hle⟩ := on_leased s6.out; have y5 : (n : Int) ≤ (la : Int) := by omega))
                  go_roundw
                  case rel => exact ⟨kk + 1, n, by omega, by simp, rfl, .inl (by have := s6.out; exact this), b6.out _ _ hH.out⟩
                  case measure => simp; omega
                · have h42 : Hid (Calls Tryz.prog 42 #[.pointer (some ⟨c, 0, none⟩)] wr fun e w' => e = .returned (.tuple #[.int .u64 0, .int .i64 E]) ∧ Hid (OnC w Db c L (12800 * i + 100 * kk + 100) w') ∧ Hid (Bx wr w')) := hcall
                  have y3 : (E == 0) = false := beq_eq_false_iff_ne.2 hE
                  clear hcall hE
                  go_wp2_with (go_at_call 42; refine h42.out.mono ?_; rintro e w6 ⟨rfl, s6, b6⟩)
                  go_roundw
                  case rel => exact ⟨i + 1, by omega, by omega, by simp, c, L, rfl, rfl, rfl, s6.out.mono (by omega)⟩
                  case measure => simp; omega
              · have y3 : decide ((kk : Int) < 1 + r) = false := decide_eq_false hlt2
                go_wp2
                go_roundw
                case rel => exact ⟨i + 1, by omega, by omega, by simp, c, L, rfl, rfl, rfl, hJ.out.mono (by omega)⟩
                case measure => simp; omega
        have n4 : (t == -2) = false := beq_eq_false_iff_ne.2 hv
        clear hv
        as_aux_lemma =>
          have S5 : Hid (OnC w Db c L0 (12800 * i + 100 * 0) (wr.alloc (bxP ⟨okind, onum, okey, oval, opk⟩ pa PN pq))) := hI.out.alloc _
          have H5 := hH0
          have x1 := H5.out.at 1 _ rfl
          clear hI
          go_wp2
          go_loopw [7, 10] (fun lv kv wr => ∃ kk L : Nat, (kk : Int) ≤ 1 + r ∧ kv = .int .i64 (kk : Int) ∧ lv = .int .u64 (L : Int) ∧ Hid (OnC w Db c L (12800 * i + 100 * kk) wr) ∧ Hid (Holds wr B0 [.int .i64 okind, .int .i64 onum, .string okey, .string oval, .slice pa PN pq] 84)) (fun _ kv _ => 200 - (intOf kv).toNat)
          case atStart => exact ⟨0, L0, by omega, rfl, rfl, S5, H5⟩
          case round =>
            obtain ⟨kk, L, hkk, rfl, rfl, hJ, hH⟩ := hrel
            clear S5 H5
            have y1 : wr.cell? ⟨B0, 1, none⟩ = some (.int .i64 onum) := hH.out.at 1 _ rfl
            have y2 : IntKind.i64.wrap ((kk : Int) + 1) = (kk : Int) + 1 := by simp [IntKind.wrap, IntKind.bits, IntKind.signed]; omega
            by_cases hlt2 : (kk : Int) < 1 + r
            · rcases on_next hJ.out (by omega) with ⟨n, hn, hcall⟩ | ⟨E, hE, hcall⟩
              · have h42 : Hid (Calls Tryz.prog 42 #[.pointer (some ⟨c, 0, none⟩)] wr fun e w' => e = .returned (.tuple #[.int .u64 (n : Int), .int .i64 0]) ∧ Hid (OnG w Db c n (12800 * i + 100 * kk + 100) w') ∧ Hid (Bx wr w')) := hcall
                have y3 : ¬ (n : Int) ≤ (L : Int) := by omega
                clear hcall
                go_wp2_with (first
                  | (go_at_call 44; refine hle.out.mono ?_; rintro e w7 ⟨rfl, e7⟩; rw [e7]; clear e7)
                  | (go_at_call 42; refine h42.out.mono ?_; rintro e w6 ⟨rfl, s6, b6⟩; obtain ⟨la, y4, hle⟩ := on_leased s6.out; have y5 : (n : Int) ≤ (la : Int) := by omega))
                go_roundw
                case rel => exact ⟨kk + 1, n, by omega, by simp, rfl, .inl (by have := s6.out; exact this), b6.out _ _ hH.out⟩
                case measure => simp; omega
              · have h42 : Hid (Calls Tryz.prog 42 #[.pointer (some ⟨c, 0, none⟩)] wr fun e w' => e = .returned (.tuple #[.int .u64 0, .int .i64 E]) ∧ Hid (OnC w Db c L (12800 * i + 100 * kk + 100) w') ∧ Hid (Bx wr w')) := hcall
                have y3 : (E == 0) = false := beq_eq_false_iff_ne.2 hE
                clear hcall hE
                go_wp2_with (go_at_call 42; refine h42.out.mono ?_; rintro e w6 ⟨rfl, s6, b6⟩)
                go_roundw
                case rel => exact ⟨i + 1, by omega, by omega, by simp, c, L, rfl, rfl, rfl, s6.out.mono (by omega)⟩
                case measure => simp; omega
            · have y3 : decide ((kk : Int) < 1 + r) = false := decide_eq_false hlt2
              go_wp2
              go_roundw
              case rel => exact ⟨i + 1, by omega, by omega, by simp, c, L, rfl, rfl, rfl, hJ.out.mono (by omega)⟩
              case measure => simp; omega
      · have g1 : (i : Int) < (LN : Int) := by omega
        have g3 : ¬ (i : Int) < 60 := by omega
        have g5 : decide ((i : Int) < 60) = false := decide_eq_false g3
        go_wp2
        go_ret
        exact ⟨rfl, hI.out.bel⟩
    · obtain rfl : i = LN := by omega
      go_wp2
      go_ret
      exact ⟨rfl, hI.out.bel⟩
end Go.Proofs.YtfmmholkeadejaaGreatDoor
