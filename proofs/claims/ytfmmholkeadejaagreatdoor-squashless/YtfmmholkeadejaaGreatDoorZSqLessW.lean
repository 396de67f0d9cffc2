/- SquashLess (13): the walk. -/
import Derived.Deep.RegionHeld3
import Derived.Test.YtfmmholkeadejaaGreatDoorZT2
import Derived.Test.YtfmmholkeadejaaGreatDoorZCkFull
namespace Go.Proofs.YtfmmholkeadejaaGreatDoor
open Go.RowKit

theorem ls_used {w W : World} {N : Lo} {c d mb : Nat} {S : Dk} {K : Ck} (h : Cur w W N c d mb S K) : Calls Tryz.prog 50 #[.pointer (some ⟨d, 0, none⟩)] W fun e w' => e = .returned (.int .i64 (used S.fs : Int)) ∧ Hid (Cur w w' N c d mb S K) :=
  (used_some N d S W h.disk).mono fun _ _ ⟨e1, e2⟩ => ⟨e1, h.below e2⟩
theorem ls_len {w W : World} {N : Lo} {c d mb : Nat} {S : Dk} {K : Ck} (h : Cur w W N c d mb S K) : Calls Tryz.prog 22 #[.pointer (some ⟨c, 0, none⟩)] W fun e w' => e = .returned (.int .i64 (K.kv.length : Int)) ∧ Hid (Cur w w' N c d mb S K) :=
  (cur_len h).mono fun _ _ ⟨e1, e2⟩ => ⟨e1, by rw [e2]; exact h⟩
theorem ls_dead {w W : World} {N : Lo} {c d mb : Nat} {S : Dk} {K : Ck} (h : Cur w W N c d mb S K) : Calls Tryz.prog 25 #[.pointer (some ⟨c, 0, none⟩)] W fun e w' => e = .returned (.int .i64 (K.recs - (K.kv.length : Int))) ∧ Hid (Cur w w' N c d mb S K) := by
  obtain ⟨sv, o⟩ := h.op
  exact (dead_some N c d mb sv S K W o).mono fun e w' ⟨e1, e2⟩ => ⟨e1, h.below e2⟩
theorem ls_segs {w W : World} {N : Lo} {c d mb : Nat} {S : Dk} {K : Ck} (h : Cur w W N c d mb S K) : Calls Tryz.prog 24 #[.pointer (some ⟨c, 0, none⟩)] W fun e w' => ∃ sa q, e = .returned (.slice sa K.segs.length q) ∧ Hid (Cur w w' N c d mb S K) := by
  obtain ⟨sv, o⟩ := h.op
  refine (segments_some N c d mb sv S K W o).mono fun e w' ⟨v, e1, e2, e3⟩ => ?_
  obtain ⟨sa, q, rfl⟩ := row_slice e2
  exact ⟨sa, q, e1, h.below e3⟩
set_option maxHeartbeats 0 in
set_option maxRecDepth 100000 in
theorem squashLess_walk (l : List Ch) (hK : ∀ c ∈ l, c.k.size ≤ maxLen) (a : Option Addr) (cap : Nat) (hlen : l.length ≤ 9223372036854775807) (w : World) (hT : Tab w.heap.size w) (hl : InC w a l) :
    Calls Tryz.prog 13 #[.slice a l.length cap] w fun e w' => e = .returned (.bool true) ∧ Below w.heap.size w w' := by
  have hA : Hid (Calls Tryz.prog 43 #[] w fun e w' => e = .returned (.bool true) ∧ Hid (Below w.heap.size w w')) := awake5_any w hT
  have h29 : Hid (∀ W, Hid (Below w.heap.size w W) → Calls Tryz.prog 29 #[.int .i64 16777216] W fun e w' => e = .returned (.pointer (some ⟨W.heap.size, 0, none⟩)) ∧ Hid (DCur w w' (lo0 w) W.heap.size (newS 16777216))) := fun W hB => full_new w W hT hB.out 16777216
  have h16 : Hid (∀ W d, Hid (DCur w W (lo0 w) d (newS 16777216)) → Calls Tryz.prog 16 #[.pointer (some ⟨d, 0, none⟩), .string v1B] W fun e w' => ∃ c, e = .returned (.tuple #[.pointer (some ⟨c, 0, none⟩), .int .i64 0]) ∧ Hid (LeI w c d 0 w')) := fun W d h => le_open h.out
  have hl : Hid (InC w a l) := hl
  have hK : Hid (∀ c ∈ l, c.k.size ≤ maxLen) := hK
  obtain ⟨LN, hLN0⟩ : ∃ LN, l.length = LN := ⟨_, rfl⟩
  have hLN : Hid (l.length = LN) := hLN0
  rw [hLN0] at hlen ⊢
  clear hT hLN0
  go_enter Tryz.func13, Tryz.ntmps13
  go_wp2_with (first
    | (go_at_call 16; refine (h16.out _ _ sn).mono ?_; rintro e w2 ⟨c, rfl, s0⟩)
    | (go_at_call 29; refine (h29.out _ sA).mono ?_; rintro e wn ⟨rfl, sn⟩)
    | (go_at_call 43; refine hA.out.mono ?_; rintro e wA ⟨rfl, sA⟩))
  obtain ⟨Db, hDb⟩ : ∃ Db, wA.heap.size = Db := ⟨_, rfl⟩
  rw [hDb] at s0 ⊢
  clear hA h29 h16 sn hDb sA
  go_loopw [7] (fun p wr => ∃ i : Nat, i ≤ 60 ∧ i ≤ LN ∧ p = .int .i64 (i : Int) ∧ Hid (LeI w c Db i wr)) (fun p _ => LN - (intOf p).toNat)
  case atStart => exact ⟨0, by omega, by omega, rfl, s0⟩
  case round =>
    obtain ⟨i, hi, hiL, rfl, hI⟩ := hrel
    clear s0
    rcases Nat.lt_or_ge i LN with hlt | hge
    · rcases Nat.lt_or_ge i 60 with h60 | h60
      · have hlen' := hLN.out
        obtain ⟨ch, hch⟩ : ∃ ch, l[i]? = some ch := ⟨_, List.getElem?_eq_getElem (by omega)⟩
        obtain ⟨b, o, rfl, hb, hcells⟩ := hl.out (fun e => by rw [e] at hch; simp at hch)
        have hkz := hK.out ch (List.mem_of_getElem? hch)
        obtain ⟨x1, x2, x3⟩ := hcells i ch hch
        obtain ⟨ck, cv, cd⟩ := ch
        have k1 : wr.cell? ⟨b, o + i * 3, none⟩ = some (.string ck) := (hI.out.bel.cell (p := ⟨b, o + i * 3, none⟩) hb).trans x1
        have k2 : wr.cell? ⟨b, o + i * 3 + 1, none⟩ = some (.string cv) := (hI.out.bel.cell (p := ⟨b, o + i * 3 + 1, none⟩) hb).trans x2
        have k3 : wr.cell? ⟨b, o + i * 3 + 2, none⟩ = some (.bool cd) := (hI.out.bel.cell (p := ⟨b, o + i * 3 + 2, none⟩) hb).trans x3
        have g1 : (i : Int) < (LN : Int) := by omega
        have g2 : (0 : Int) ≤ (i : Int) := by omega
        have g3 : (i : Int) < 60 := by omega
        have g4 : IntKind.i64.wrap ((i : Int) + 1) = (i : Int) + 1 := by simp [IntKind.wrap, IntKind.bits, IntKind.signed]; omega
        cases cd with
        | true =>
          have h19 : Hid (∀ q, Calls Tryz.prog 19 #[.pointer (some ⟨c, 0, none⟩), .slice (some ⟨wr.heap.size, 0, none⟩) 1 q] (wr.alloc (.cells #[.string ck] 9)) fun e w' => ∃ E, e = .returned (.int .i64 E) ∧ Hid (LeI w c Db (i + 1) w')) := fun q => le_del (hI.out.below ((Below.refl _ wr).alloc (Nat.le_refl _) _)) (by omega) ck hkz _ q (new_cell wr ck)
          clear hcells hb hlen' hch hkz x1 x2 x3
          go_wp2_with (go_at_call 19; refine (h19.out _).mono ?_; rintro e w3 ⟨E, rfl, s3⟩)
          go_roundw
          case rel => exact ⟨i + 1, by omega, by omega, by simp, s3⟩
          case measure => simp; omega
        | false =>
          have hcb : Hid (∀ W, Below w.heap.size w W → W.cell? ⟨b, o + i * 3, none⟩ = some (.string ck) ∧ W.cell? ⟨b, o + i * 3 + 1, none⟩ = some (.string cv)) := fun W hB => ⟨(hB.cell (p := ⟨b, o + i * 3, none⟩) hb).trans x1, (hB.cell (p := ⟨b, o + i * 3 + 1, none⟩) hb).trans x2⟩
          have h18 : Hid (Calls Tryz.prog 18 #[.pointer (some ⟨c, 0, none⟩), .string ck, .string cv] wr.drew fun e w' => ∃ E, e = .returned (.int .i64 E) ∧ Hid (LeI w c Db (i + 1) w')) := le_put (hI.out.below (Below.refl _ wr).drew) (by omega) ck cv
          clear hcells hb hlen' hch hkz x1 x2 x3
          go_wp2_with fail
          go_region_held3 (fun w' => w'.cell? ⟨b, o + i * 3, none⟩ = some (.string ck) ∧ w'.cell? ⟨b, o + i * 3 + 1, none⟩ = some (.string cv)) (go_keep) (first | (go_at_call 18; refine h18.out.mono ?_; rintro e w3 ⟨E, rfl, s3⟩; obtain ⟨z1, z2⟩ := hcb.out w3 s3.out.bel))
          go_wp2
          go_roundw
          case rel => exact ⟨i + 1, by omega, by omega, by simp, s3⟩
          case measure => simp; omega
      · have g1 : (i : Int) < (LN : Int) := by omega
        have g3 : ¬ (i : Int) < 60 := by omega
        have g5 : decide ((i : Int) < 60) = false := decide_eq_false g3
        obtain ⟨N, mb, S, K, chs, hS⟩ := hI.out
        have hrec : K.recs = (chs.length : Int) := by
          obtain ⟨L, g, hL, _⟩ := hS.on.ex
          rw [g.recs, hL]
        have hcn := hS.on.len
        obtain ⟨n, hn0, hn1, hsq1⟩ := le_first hS (by omega)
        have h39a : Hid (∀ W, Hid (Cur w W N c Db mb S K) → Calls Tryz.prog 39 #[.pointer (some ⟨c, 0, none⟩)] W fun e w' => e = .returned (.tuple #[.int .i64 n, .int .i64 0]) ∧ Hid (∃ N' mb' S' K' L', LeB w N' c Db mb' S' K' L' w' ∧ used S'.fs ≤ used S.fs ∧ K'.recs = K.recs - n)) := fun W h => hsq1 W h.out
        obtain ⟨R, hR⟩ : ∃ R, K.recs = R := ⟨_, rfl⟩
        have hR2 : R ≤ 1000 := by rw [← hR, hrec]; omega
        rw [hR] at hn1
        have hU1 : ∃ U : Nat, used S.fs = U := ⟨_, rfl⟩
        obtain ⟨U, hU⟩ := hU1
        obtain ⟨A, hA⟩ : ∃ A : Nat, K.kv.length = A := ⟨_, rfl⟩
        have hA1 : A ≤ 1000 := by
          have e := hS.on.kv
          have := kvOf_len chs
          rw [← e, hA] at this
          omega
        have h50a : Hid (∀ W, Hid (Cur w W N c Db mb S K) → Calls Tryz.prog 50 #[.pointer (some ⟨Db, 0, none⟩)] W fun e w' => e = .returned (.int .i64 (U : Int)) ∧ Hid (Cur w w' N c Db mb S K)) := fun W h => by rw [← hU]; exact ls_used h.out
        have h22a : Hid (∀ W, Hid (Cur w W N c Db mb S K) → Calls Tryz.prog 22 #[.pointer (some ⟨c, 0, none⟩)] W fun e w' => e = .returned (.int .i64 (A : Int)) ∧ Hid (Cur w w' N c Db mb S K)) := fun W h => by rw [← hA]; exact ls_len h.out
        have h25a : Hid (∀ W, Hid (Cur w W N c Db mb S K) → Calls Tryz.prog 25 #[.pointer (some ⟨c, 0, none⟩)] W fun e w' => e = .returned (.int .i64 (R - (A : Int))) ∧ Hid (Cur w w' N c Db mb S K)) := fun W h => by rw [← hA, ← hR]; exact ls_dead h.out
        have sI : Hid (Cur w wr N c Db mb S K) := hS.cur
        have z1 : IntKind.i64.wrap ((A : Int) + (R - (A : Int))) = R := by simp [IntKind.wrap, IntKind.bits, IntKind.signed]; omega
        have z2 : IntKind.i64.wrap (R - n) = R - n := by simp [IntKind.wrap, IntKind.bits, IntKind.signed]; omega
        have z3 : ¬ n < 0 := by omega
        have hR' : Hid (K.recs = R) := hR
        have hU' : Hid (used S.fs = U) := hU
        clear hI hS hrec hcn hsq1 hR hU hA
        go_wp2_with (first
          | (go_at_call 39; refine (h39a.out _ s3).mono ?_; rintro e w4 ⟨rfl, s4⟩)
          | (go_at_call 25; refine (h25a.out _ s2).mono ?_; rintro e w3 ⟨rfl, s3⟩)
          | (go_at_call 22; refine (h22a.out _ s1).mono ?_; rintro e w2 ⟨rfl, s2⟩)
          | (go_at_call 50; refine (h50a.out _ sI).mono ?_; rintro e w1 ⟨rfl, s1⟩))
        obtain ⟨N1, mb1, S1, K1, L1, hb1, hu1, hr1⟩ := s4.out
        rw [hR'.out] at hr1
        rw [hU'.out] at hu1
        obtain ⟨U1, hU1⟩ : ∃ U1 : Nat, used S1.fs = U1 := ⟨_, rfl⟩
        obtain ⟨A1, hA1'⟩ : ∃ A1 : Nat, K1.kv.length = A1 := ⟨_, rfl⟩
        have hA2 : A1 ≤ 1000 := by
          have e : K1.kv = kvOf (L1.flatMap Sg.cs) := hb1.good.kv
          have := kvOf_len (L1.flatMap Sg.cs)
          rw [← e, hA1'] at this
          have := hb1.cnt
          omega
        have h50b : Hid (∀ W, Hid (Cur w W N1 c Db mb1 S1 K1) → Calls Tryz.prog 50 #[.pointer (some ⟨Db, 0, none⟩)] W fun e w' => e = .returned (.int .i64 (U1 : Int)) ∧ Hid (Cur w w' N1 c Db mb1 S1 K1)) := fun W h => by rw [← hU1]; exact ls_used h.out
        have h22b : Hid (∀ W, Hid (Cur w W N1 c Db mb1 S1 K1) → Calls Tryz.prog 22 #[.pointer (some ⟨c, 0, none⟩)] W fun e w' => e = .returned (.int .i64 (A1 : Int)) ∧ Hid (Cur w w' N1 c Db mb1 S1 K1)) := fun W h => by rw [← hA1']; exact ls_len h.out
        have h25b : Hid (∀ W, Hid (Cur w W N1 c Db mb1 S1 K1) → Calls Tryz.prog 25 #[.pointer (some ⟨c, 0, none⟩)] W fun e w' => e = .returned (.int .i64 (R - n - (A1 : Int))) ∧ Hid (Cur w w' N1 c Db mb1 S1 K1)) := fun W h => by rw [← hA1', ← hr1]; exact ls_dead h.out
        obtain ⟨m, hm0, hsq2⟩ := le_second hb1
        have h39b : Hid (∀ W, Hid (Cur w W N1 c Db mb1 S1 K1) → Calls Tryz.prog 39 #[.pointer (some ⟨c, 0, none⟩)] W fun e w' => e = .returned (.tuple #[.int .i64 m, .int .i64 0]) ∧ Hid (∃ N' mb' S' K', LeC w N' c Db mb' S' K' w')) := fun W h => hsq2 W h.out
        have h39c : Hid (∀ W, Hid (∃ N' mb' S' K', LeC w N' c Db mb' S' K' W) → Calls Tryz.prog 39 #[.pointer (some ⟨c, 0, none⟩)] W fun e w' => e = .returned (.tuple #[.int .i64 0, .int .i64 0]) ∧ Hid (∃ N' mb' S' K', LeC w N' c Db mb' S' K' w')) := fun W h => by
          obtain ⟨N', mb', S', K', h⟩ := h.out
          exact (le_third h).mono fun e w' ⟨e1, e2⟩ => ⟨e1, N', mb', S', K', e2⟩
        have h25c : Hid (∀ W, Hid (∃ N' mb' S' K', LeC w N' c Db mb' S' K' W) → Calls Tryz.prog 25 #[.pointer (some ⟨c, 0, none⟩)] W fun e w' => e = .returned (.int .i64 0) ∧ Hid (∃ N' mb' S' K', LeC w N' c Db mb' S' K' w')) := fun W h => by
          obtain ⟨N', mb', S', K', h⟩ := h.out
          have hd := ls_dead h.cur
          rw [h.dead] at hd
          exact hd.mono fun e w' ⟨e1, e2⟩ => ⟨e1, N', mb', S', K', e2.out, h.ok, h.one, h.dead⟩
        have h24c : Hid (∀ W, Hid (∃ N' mb' S' K', LeC w N' c Db mb' S' K' W) → Calls Tryz.prog 24 #[.pointer (some ⟨c, 0, none⟩)] W fun e w' => ∃ (sa : Option Addr) (M q : Nat), e = .returned (.slice sa M q) ∧ M ≤ 1 ∧ Hid (Below w.heap.size w w')) := fun W h => by
          obtain ⟨N', mb', S', K', h⟩ := h.out
          exact (ls_segs h.cur).mono fun e w' ⟨sa, q, e1, e2⟩ => ⟨sa, K'.segs.length, q, e1, h.one, e2.out.bel⟩
        have t5 : Hid (Cur w w4 N1 c Db mb1 S1 K1) := hb1.cur
        have z4 : ¬ (U : Int) < (U1 : Int) := by rw [hU1] at hu1; omega
        have z5 : IntKind.i64.wrap ((A1 : Int) + (R - n - (A1 : Int))) = R - n := by simp [IntKind.wrap, IntKind.bits, IntKind.signed]; omega
        have z6 : (0 : Int) ≤ m := hm0
        clear s4 hb1 hu1 hr1 hU1 hA1' hsq2 h39a h50a h22a h25a hR' hU'
        go_wp2_with (first
          | (go_at_call 24; refine (h24c.out _ t11).mono ?_; rintro e w12 ⟨sa, M, qq, rfl, hM1, t12⟩; have zM : (M : Int) ≤ 1 := (by omega))
          | (go_at_call 25; refine (h25c.out _ t10).mono ?_; rintro e w11 ⟨rfl, t11⟩)
          | (go_at_call 39; refine (h39c.out _ t9).mono ?_; rintro e w10 ⟨rfl, t10⟩)
          | (go_at_call 39; refine (h39b.out _ t8).mono ?_; rintro e w9 ⟨rfl, t9⟩)
          | (go_at_call 25; refine (h25b.out _ t7).mono ?_; rintro e w8 ⟨rfl, t8⟩)
          | (go_at_call 22; refine (h22b.out _ t6).mono ?_; rintro e w7 ⟨rfl, t7⟩)
          | (go_at_call 50; refine (h50b.out _ t5).mono ?_; rintro e w6 ⟨rfl, t6⟩))
        go_ret
        exact ⟨rfl, t12.out⟩
    · obtain rfl : i = LN := by omega
      obtain ⟨N, mb, S, K, chs, hS⟩ := hI.out
      have hrec : K.recs = (chs.length : Int) := by
        obtain ⟨L, g, hL, _⟩ := hS.on.ex
        rw [g.recs, hL]
      have hcn := hS.on.len
      obtain ⟨n, hn0, hn1, hsq1⟩ := le_first hS (by omega)
      have h39a : Hid (∀ W, Hid (Cur w W N c Db mb S K) → Calls Tryz.prog 39 #[.pointer (some ⟨c, 0, none⟩)] W fun e w' => e = .returned (.tuple #[.int .i64 n, .int .i64 0]) ∧ Hid (∃ N' mb' S' K' L', LeB w N' c Db mb' S' K' L' w' ∧ used S'.fs ≤ used S.fs ∧ K'.recs = K.recs - n)) := fun W h => hsq1 W h.out
      obtain ⟨R, hR⟩ : ∃ R, K.recs = R := ⟨_, rfl⟩
      have hR2 : R ≤ 1000 := by rw [← hR, hrec]; omega
      rw [hR] at hn1
      have hU1 : ∃ U : Nat, used S.fs = U := ⟨_, rfl⟩
      obtain ⟨U, hU⟩ := hU1
      obtain ⟨A, hA⟩ : ∃ A : Nat, K.kv.length = A := ⟨_, rfl⟩
      have hA1 : A ≤ 1000 := by
        have e := hS.on.kv
        have := kvOf_len chs
        rw [← e, hA] at this
        omega
      have h50a : Hid (∀ W, Hid (Cur w W N c Db mb S K) → Calls Tryz.prog 50 #[.pointer (some ⟨Db, 0, none⟩)] W fun e w' => e = .returned (.int .i64 (U : Int)) ∧ Hid (Cur w w' N c Db mb S K)) := fun W h => by rw [← hU]; exact ls_used h.out
      have h22a : Hid (∀ W, Hid (Cur w W N c Db mb S K) → Calls Tryz.prog 22 #[.pointer (some ⟨c, 0, none⟩)] W fun e w' => e = .returned (.int .i64 (A : Int)) ∧ Hid (Cur w w' N c Db mb S K)) := fun W h => by rw [← hA]; exact ls_len h.out
      have h25a : Hid (∀ W, Hid (Cur w W N c Db mb S K) → Calls Tryz.prog 25 #[.pointer (some ⟨c, 0, none⟩)] W fun e w' => e = .returned (.int .i64 (R - (A : Int))) ∧ Hid (Cur w w' N c Db mb S K)) := fun W h => by rw [← hA, ← hR]; exact ls_dead h.out
      have sI : Hid (Cur w wr N c Db mb S K) := hS.cur
      have z1 : IntKind.i64.wrap ((A : Int) + (R - (A : Int))) = R := by simp [IntKind.wrap, IntKind.bits, IntKind.signed]; omega
      have z2 : IntKind.i64.wrap (R - n) = R - n := by simp [IntKind.wrap, IntKind.bits, IntKind.signed]; omega
      have z3 : ¬ n < 0 := by omega
      have hR' : Hid (K.recs = R) := hR
      have hU' : Hid (used S.fs = U) := hU
      clear hI hS hrec hcn hsq1 hR hU hA
      go_wp2_with (first
        | (go_at_call 39; refine (h39a.out _ s3).mono ?_; rintro e w4 ⟨rfl, s4⟩)
        | (go_at_call 25; refine (h25a.out _ s2).mono ?_; rintro e w3 ⟨rfl, s3⟩)
        | (go_at_call 22; refine (h22a.out _ s1).mono ?_; rintro e w2 ⟨rfl, s2⟩)
        | (go_at_call 50; refine (h50a.out _ sI).mono ?_; rintro e w1 ⟨rfl, s1⟩))
      obtain ⟨N1, mb1, S1, K1, L1, hb1, hu1, hr1⟩ := s4.out
      rw [hR'.out] at hr1
      rw [hU'.out] at hu1
      obtain ⟨U1, hU1⟩ : ∃ U1 : Nat, used S1.fs = U1 := ⟨_, rfl⟩
      obtain ⟨A1, hA1'⟩ : ∃ A1 : Nat, K1.kv.length = A1 := ⟨_, rfl⟩
      have hA2 : A1 ≤ 1000 := by
        have e : K1.kv = kvOf (L1.flatMap Sg.cs) := hb1.good.kv
        have := kvOf_len (L1.flatMap Sg.cs)
        rw [← e, hA1'] at this
        have := hb1.cnt
        omega
      have h50b : Hid (∀ W, Hid (Cur w W N1 c Db mb1 S1 K1) → Calls Tryz.prog 50 #[.pointer (some ⟨Db, 0, none⟩)] W fun e w' => e = .returned (.int .i64 (U1 : Int)) ∧ Hid (Cur w w' N1 c Db mb1 S1 K1)) := fun W h => by rw [← hU1]; exact ls_used h.out
      have h22b : Hid (∀ W, Hid (Cur w W N1 c Db mb1 S1 K1) → Calls Tryz.prog 22 #[.pointer (some ⟨c, 0, none⟩)] W fun e w' => e = .returned (.int .i64 (A1 : Int)) ∧ Hid (Cur w w' N1 c Db mb1 S1 K1)) := fun W h => by rw [← hA1']; exact ls_len h.out
      have h25b : Hid (∀ W, Hid (Cur w W N1 c Db mb1 S1 K1) → Calls Tryz.prog 25 #[.pointer (some ⟨c, 0, none⟩)] W fun e w' => e = .returned (.int .i64 (R - n - (A1 : Int))) ∧ Hid (Cur w w' N1 c Db mb1 S1 K1)) := fun W h => by rw [← hA1', ← hr1]; exact ls_dead h.out
      obtain ⟨m, hm0, hsq2⟩ := le_second hb1
      have h39b : Hid (∀ W, Hid (Cur w W N1 c Db mb1 S1 K1) → Calls Tryz.prog 39 #[.pointer (some ⟨c, 0, none⟩)] W fun e w' => e = .returned (.tuple #[.int .i64 m, .int .i64 0]) ∧ Hid (∃ N' mb' S' K', LeC w N' c Db mb' S' K' w')) := fun W h => hsq2 W h.out
      have h39c : Hid (∀ W, Hid (∃ N' mb' S' K', LeC w N' c Db mb' S' K' W) → Calls Tryz.prog 39 #[.pointer (some ⟨c, 0, none⟩)] W fun e w' => e = .returned (.tuple #[.int .i64 0, .int .i64 0]) ∧ Hid (∃ N' mb' S' K', LeC w N' c Db mb' S' K' w')) := fun W h => by
        obtain ⟨N', mb', S', K', h⟩ := h.out
        exact (le_third h).mono fun e w' ⟨e1, e2⟩ => ⟨e1, N', mb', S', K', e2⟩
      have h25c : Hid (∀ W, Hid (∃ N' mb' S' K', LeC w N' c Db mb' S' K' W) → Calls Tryz.prog 25 #[.pointer (some ⟨c, 0, none⟩)] W fun e w' => e = .returned (.int .i64 0) ∧ Hid (∃ N' mb' S' K', LeC w N' c Db mb' S' K' w')) := fun W h => by
        obtain ⟨N', mb', S', K', h⟩ := h.out
        have hd := ls_dead h.cur
        rw [h.dead] at hd
        exact hd.mono fun e w' ⟨e1, e2⟩ => ⟨e1, N', mb', S', K', e2.out, h.ok, h.one, h.dead⟩
      have h24c : Hid (∀ W, Hid (∃ N' mb' S' K', LeC w N' c Db mb' S' K' W) → Calls Tryz.prog 24 #[.pointer (some ⟨c, 0, none⟩)] W fun e w' => ∃ (sa : Option Addr) (M q : Nat), e = .returned (.slice sa M q) ∧ M ≤ 1 ∧ Hid (Below w.heap.size w w')) := fun W h => by
        obtain ⟨N', mb', S', K', h⟩ := h.out
        exact (ls_segs h.cur).mono fun e w' ⟨sa, q, e1, e2⟩ => ⟨sa, K'.segs.length, q, e1, h.one, e2.out.bel⟩
      have t5 : Hid (Cur w w4 N1 c Db mb1 S1 K1) := hb1.cur
      have z4 : ¬ (U : Int) < (U1 : Int) := by rw [hU1] at hu1; omega
      have z5 : IntKind.i64.wrap ((A1 : Int) + (R - n - (A1 : Int))) = R - n := by simp [IntKind.wrap, IntKind.bits, IntKind.signed]; omega
      have z6 : (0 : Int) ≤ m := hm0
      clear s4 hb1 hu1 hr1 hU1 hA1' hsq2 h39a h50a h22a h25a hR' hU'
      go_wp2_with (first
        | (go_at_call 24; refine (h24c.out _ t11).mono ?_; rintro e w12 ⟨sa, M, qq, rfl, hM1, t12⟩; have zM : (M : Int) ≤ 1 := (by omega))
        | (go_at_call 25; refine (h25c.out _ t10).mono ?_; rintro e w11 ⟨rfl, t11⟩)
        | (go_at_call 39; refine (h39c.out _ t9).mono ?_; rintro e w10 ⟨rfl, t10⟩)
        | (go_at_call 39; refine (h39b.out _ t8).mono ?_; rintro e w9 ⟨rfl, t9⟩)
        | (go_at_call 25; refine (h25b.out _ t7).mono ?_; rintro e w8 ⟨rfl, t8⟩)
        | (go_at_call 22; refine (h22b.out _ t6).mono ?_; rintro e w7 ⟨rfl, t7⟩)
        | (go_at_call 50; refine (h50b.out _ t5).mono ?_; rintro e w6 ⟨rfl, t6⟩))
      go_ret
      exact ⟨rfl, t12.out⟩
end Go.Proofs.YtfmmholkeadejaaGreatDoor
