/- CaskLast (7): the walk. -/
import Derived.Deep.RegionHeld3
import Derived.Test.YtfmmholkeadejaaGreatDoorZCkLast
namespace Go.Proofs.YtfmmholkeadejaaGreatDoor
open Go.RowKit

theorem info52 : (Tryz.prog.info? 52).map (fun i => (i.zero, i.size, i.bytes)) = some (some (.agg #[.string ⟨#[]⟩, .string ⟨#[]⟩, .bool false]), 3, 40) := by kernel_rfl
theorem LastI.below {w W W' : World} {c d i : Nat} {chs all : List Ch} {v : Value} (h : LastI w c d chs all i W v) (hb : Below W.heap.size W W') : LastI w c d chs all i W' v := by
  obtain ⟨N, mb, S, K, h⟩ := h
  exact ⟨N, mb, S, K, h.below hb⟩
theorem LastI.row {w W : World} {c d i : Nat} {chs all : List Ch} {v : Value} (h : LastI w c d chs all i W v) : W.ownsRow w.heap.size 52 3 v all.length (rowI all) := by
  obtain ⟨N, mb, S, K, h⟩ := h
  exact h.row
/-- Between two rounds: the row and the cask. -/
def LR (w : World) (c d : Nat) (all : List Ch) (i : Nat) (W : World) (a : Option Addr) (n q : Nat) : Prop := n = all.length ∧ n ≤ i ∧ LastI w c d (all.map nrm) all i W (.slice a n q)
theorem last_app {w W W' : World} {c d i n q n' q' : Nat} {a a' : Option Addr} {all : List Ch} {ch : Ch} {ob : Obj} (hn : n = all.length) (hi : n ≤ i) (h : LastI w c d (all.map nrm ++ [nrm ch]) all (i + 1) W (.slice a n q)) (hg : (W.alloc ob).grownBy W' (Value.slice a n q).ownBlock)
    (ho : W'.ownsRow w.heap.size 52 3 (.slice a' n' q') (all.length + 1) (rowI all ++ [.string ch.k, .string ch.v, .bool ch.dead])) (he : n' = all.length + 1) : LR w c d (all ++ [ch]) (i + 1) W' a' n' q' := by
  have h1 := h.below ((Below.refl W.heap.size W).alloc (Nat.le_refl _) ob)
  refine ⟨by simp [he], by omega, ?_⟩
  have := last_more h1 hg rfl ho
  rw [List.map_append]
  exact this
theorem row_n {W : World} {m e size n k q : Nat} {a : Option Addr} {xs : List Value} (h : W.ownsRow m e size (.slice a n q) k xs) : n = k := by
  obtain ⟨a', q', e1⟩ := row_slice h
  injection e1
theorem new_three (W : World) (k V : ByteArray) (b : Bool) : ∀ j u, [Value.string k, .string V, .bool b][j]? = some u → (W.alloc (.cells #[.string k, .string V, .bool b] 52)).cell? ((⟨W.heap.size, 0, none⟩ : Addr).add j) = some u := fun j u hu => by
  have := (holds_new W [.string k, .string V, .bool b] 52).at j u hu
  have e : (⟨W.heap.size, 0, none⟩ : Addr).add j = ⟨W.heap.size, j, none⟩ := by simp [Addr.add]; exact fun h => h.symm
  rw [e]; exact this
theorem lr_cell {w W : World} {c d i n q j : Nat} {a : Option Addr} {all : List Ch} {ch : Ch} (h : LR w c d all i W a n q) (hj : all[j]? = some ch) : ∃ b o, a = some ⟨b, o, none⟩ ∧ W.cell? ⟨b, o + j * 3, none⟩ = some (.string ch.k) := by
  obtain ⟨h1, h2, h3⟩ := h
  obtain ⟨a', q', e, hc⟩ := chg_of_row h3.row
  injection e with e1 e2 e3
  subst e1
  obtain ⟨b, o, rfl, hb, hr⟩ := hc (fun e => by rw [e] at hj; simp at hj)
  exact ⟨b, o, rfl, (hr j ch hj).1⟩
theorem lr_keys {w W : World} {c d i n q : Nat} {a : Option Addr} {all : List Ch} (h : LR w c d all i W a n q) : ∀ x ∈ all, x.k.size ≤ maxLen := fun x hx => by
  obtain ⟨N, mb, S, K, h⟩ := h.2.2
  have := h.oks (nrm x) (List.mem_map_of_mem hx)
  have e : (nrm x).k = x.k := by unfold nrm; split <;> rfl
  rw [← e]
  have q := cfE_zero this; unfold maxLen; omega
theorem LR.bel {w W : World} {c d i n q : Nat} {a : Option Addr} {all : List Ch} (h : LR w c d all i W a n q) : Below w.heap.size w W := h.2.2.bel
set_option maxHeartbeats 8000000 in
set_option maxRecDepth 100000 in
theorem caskLast_walk (l : List Ch) (a : Option Addr) (cap : Nat) (every : Int) (hlen : l.length ≤ 9223372036854775807) (hks : ∀ c ∈ l, c.k.size ≤ maxLen) (w : World) (hT : Tab w.heap.size w) (hl : InC w a l) :
    Calls Tryz.prog 7 #[.slice a l.length cap, .int .i64 every] w fun e w' => e = .returned (.bool true) ∧ Below w.heap.size w w' := by
  have hA : Hid (Calls Tryz.prog 17 #[] w fun e w' => e = .returned (.bool true) ∧ Hid (Below w.heap.size w w')) := awake_any w hT
  obtain ⟨r, hr⟩ : ∃ r, Int.tmod every 20 = r := ⟨_, rfl⟩
  have hr1 : -20 < r ∧ r < 20 := by rw [← hr]; exact ⟨by have := Int.lt_tmod_of_pos every (b := 20) (by decide); omega, Int.tmod_lt_of_pos every (by decide)⟩
  have hw1 : IntKind.i64.wrap r = r := by simp [IntKind.wrap, IntKind.bits, IntKind.signed]; omega
  have h29 : Hid (∀ W, Hid (Below w.heap.size w W) → Calls Tryz.prog 29 #[.int .i64 16777216] W fun e w' => e = .returned (.pointer (some ⟨W.heap.size, 0, none⟩)) ∧ Hid (DCur w w' (lo0 w) W.heap.size (newS 16777216))) := fun W hB => full_new w W hT hB.out 16777216
  have h16 : Hid (∀ W d, Hid (DCur w W (lo0 w) d (newS 16777216)) → Calls Tryz.prog 16 #[.pointer (some ⟨d, 0, none⟩), .string v1B] W fun e w' => ∃ c, e = .returned (.tuple #[.pointer (some ⟨c, 0, none⟩), .int .i64 0]) ∧ Hid (LR w c d [] 0 w' none 0 0)) := fun W d h => (last_open h.out).mono fun e w' ⟨c, e1, e2⟩ => ⟨c, e1, rfl, Nat.le_refl _, e2⟩
  have h21 : Hid (∀ W c d all i a n q, i ≤ 200 → Hid (LR w c d all i W a n q) → Calls Tryz.prog 21 #[.pointer (some ⟨c, 0, none⟩)] W fun e w' => e = .returned (.int .i64 0) ∧ Hid (LR w c d all i w' a n q)) := fun W c d all i a n q hi h => (last_reopen h.out.2.2 (by omega)).mono fun e w' ⟨e1, e2⟩ => ⟨e1, h.out.1, h.out.2.1, e2⟩
  have hl : Hid (InC w a l) := hl
  have hks : Hid (∀ c ∈ l, c.k.size ≤ maxLen) := hks
  obtain ⟨i52, hi52, hz0, hz1, hz2⟩ := info_parts info52
  obtain ⟨LN, hLN⟩ : ∃ LN, l.length = LN := ⟨_, rfl⟩
  have hLN : Hid (l.length = LN) := hLN
  rw [hLN.out] at hlen ⊢
  clear hT
  by_cases hneg : r < 0
  · obtain ⟨kk, hkk⟩ : ∃ kk, -r = kk := ⟨_, rfl⟩
    have hk0 : 0 ≤ kk ∧ kk < 20 := by omega
    have hkw : IntKind.i64.wrap (-r) = kk := by rw [hkk]; simp [IntKind.wrap, IntKind.bits, IntKind.signed]; omega
    go_enter Tryz.func7, Tryz.ntmps7
    go_wp2_with (first
      | (go_at_call 16; refine (h16.out _ _ sn).mono ?_; rintro e w2 ⟨c, rfl, s0⟩)
      | (go_at_call 29; refine (h29.out _ sA).mono ?_; rintro e wn ⟨rfl, sn⟩)
      | (go_at_call 17; refine hA.out.mono ?_; rintro e wA ⟨rfl, sA⟩))
    obtain ⟨Db, hDb⟩ : ∃ Db, wA.heap.size = Db := ⟨_, rfl⟩
    rw [hDb] at s0 ⊢
    try rw [hkk]
    clear hA h29 h16 hr hr1 hw1 hkw sn hDb sA hneg hkk
    go_loopw [10, 11] (fun v p wr => ∃ i : Nat, i ≤ 80 ∧ i ≤ LN ∧ p = .int .i64 (i : Int) ∧ ∃ all a1 n q, v = .slice a1 n q ∧ Hid (LR w c Db all i wr a1 n q)) (fun _ p _ => LN - (intOf p).toNat)
    case atStart => exact ⟨0, by omega, by omega, rfl, [], _, _, _, rfl, s0⟩
    case round =>
      obtain ⟨i, hi, hiL, rfl, all, a1, n, q, rfl, hI⟩ := hrel
      clear s0
      rcases Nat.lt_or_ge i LN with hlt | hge
      · rcases Nat.lt_or_ge i 80 with h80 | h80
        · have hlen' := hLN.out
          obtain ⟨ch, hch⟩ : ∃ ch, l[i]? = some ch := ⟨_, List.getElem?_eq_getElem (by omega)⟩
          obtain ⟨b, o, rfl, hb, hcells⟩ := hl.out (fun e => by rw [e] at hch; simp at hch)
          obtain ⟨hnl0, hni, N, mb, S, K, hS⟩ := hI.out
          have hcb : Hid (∀ W, Below w.heap.size w W → W.cell? ⟨b, o + i * 3, none⟩ = some (.string ch.k) ∧ W.cell? ⟨b, o + i * 3 + 1, none⟩ = some (.string ch.v) ∧ W.cell? ⟨b, o + i * 3 + 2, none⟩ = some (.bool ch.dead)) := fun W hB => by
            obtain ⟨c1, c2, c3⟩ := hcells i ch hch
            exact ⟨(hB.cell (p := ⟨b, o + i * 3, none⟩) hb).trans c1, (hB.cell (p := ⟨b, o + i * 3 + 1, none⟩) hb).trans c2, (hB.cell (p := ⟨b, o + i * 3 + 2, none⟩) hb).trans c3⟩
          have hnl : Hid (n = all.length) := hnl0
          clear hnl0
          have mkx : ∀ (w3 : World) (a4 : Option Addr) n4 c4 (w4 : World), LastI w c Db (all.map nrm ++ [nrm ch]) all (i + 1) w3 (.slice a1 n q) → w4.ownsRow w.heap.size 52 3 (.slice a4 n4 c4) (n + 1) (rowI all ++ [.string ch.k, .string ch.v, .bool ch.dead]) → (w3.alloc (.cells #[.string ch.k, .string ch.v, .bool ch.dead] 52)).grownBy w4 (Value.slice a1 n q).ownBlock → Hid (LR w c Db (all ++ [ch]) (i + 1) w4 a4 n4 c4) := fun w3 a4 n4 c4 w4 h ho hg => by
            have e := row_n ho
            rw [hnl.out] at ho
            exact last_app hnl.out hni h hg ho (by rw [e, ← hnl.out])
          have mkx : Hid _ := mkx
          obtain ⟨k1, k2, k3⟩ := hcb.out wr hI.out.bel
          have g1 : (i : Int) < (LN : Int) := by omega
          have g2 : (0 : Int) ≤ (i : Int) := by omega
          have g3 : (i : Int) < 80 := by omega
          have g4 : IntKind.i64.wrap ((i : Int) + 1) = (i : Int) + 1 := by simp [IntKind.wrap, IntKind.bits, IntKind.signed]; omega
          clear hcells hb hI hlen'
          rcases Bool.eq_false_or_eq_true ch.dead with hd | hd
          all_goals rw [hd] at k3 hcb mkx
          · obtain ⟨E, hE1, hE2⟩ := last_del hS (by omega) ch hd (hks.out ch (List.mem_of_getElem? hch))
            have hS : Hid _ := hS
            clear hch
            rcases Int.lt_or_le 0 kk with hkp | hkp
            · obtain ⟨m, hm⟩ : ∃ m, Int.tmod (i : Int) kk = m := ⟨_, rfl⟩
              have hm1 : 0 ≤ m ∧ m < 20 := by rw [← hm]; exact ⟨Int.tmod_nonneg _ (by omega), by have := Int.tmod_lt_of_pos (i : Int) hkp; omega⟩
              have hmw : IntKind.i64.wrap m = m := by simp [IntKind.wrap, IntKind.bits, IntKind.signed]; omega
              have hk1 : (kk == 0) = false := beq_eq_false_iff_ne.2 (by omega)
              have hk2 : ¬ kk = 0 := by omega
              have hk3 : decide (0 < kk) = true := decide_eq_true hkp
              by_cases hm0 : m = 0
              · rw [hm0] at hm hmw
                by_cases hE : E = 0
                · subst hE
                  have hc19 : Hid (∀ W g qq, Hid (LastS w N c Db mb S K (all.map nrm) all i W (.slice a1 n q)) → W.cell? ⟨g, 0, none⟩ = some (.string ch.k) → Calls Tryz.prog 19 #[.pointer (some ⟨c, 0, none⟩), .slice (some ⟨g, 0, none⟩) 1 qq] W fun e w' => e = .returned (.int .i64 0) ∧ Hid (LastI w c Db (all.map nrm ++ [nrm ch]) all (i + 1) w' (.slice a1 n q))) := fun W g qq h hc => hE1 rfl W _ g qq h.out hc
                  clear hE1 hE2
                  have hSd : Hid (∀ ob : Obj, LastS w N c Db mb S K (all.map nrm) all i (wr.alloc ob) (.slice a1 n q)) := fun ob => hS.out.below ((Below.refl _ wr).alloc (Nat.le_refl _) ob)
                  go_wp2_with (first
                    | (go_at_call 21; refine (h21.out _ _ _ _ _ _ _ _ (by omega) s4).mono ?_; rintro e w6 ⟨rfl, s6⟩)
                    | (at_builtin; go_loud (refine wpList_append_src rfl _ _ 48 rfl w.heap.size 52 i52 (.agg #[.string ⟨#[]⟩, .string ⟨#[]⟩, .bool false]) 3 40 Tryz.underlying48 hi52 hz0 hz1 hz2 rfl (by decide) _ _ _ (W3R.alloc _) rfl [.string ch.k, .string ch.v, .bool true] (some ⟨w3.heap.size, 0, none⟩) 1 1 rfl rfl (fun _ => ⟨_, rfl, new_three w3 ch.k ch.v true⟩) (by simp [Value.oneCell']) (by unfold maxLen; omega) (by omega) (by have := s3.out.bel.size; simp; omega) ?_; intro v4 w4 own4 grow4 loc4; clear loc4; obtain ⟨a4, c4, rfl⟩ := row_slice own4; have s4 := mk4 _ _ _ _ own4 grow4; clear own4 grow4))
                    | (go_at_call 19; refine (hc19.out _ _ _ (hSd.out _) (new_cell wr ch.k)).mono ?_; rintro e w3 ⟨rfl, s3⟩; obtain ⟨m1, m2, m3⟩ := hcb.out w3 s3.out.bel; have W3R := s3.out.row; rw [← hnl.out] at W3R; have mk4 : ∀ (a4 : Option Addr) n4 c4 (w4 : World), w4.ownsRow w.heap.size 52 3 (.slice a4 n4 c4) (n + 1) (rowI all ++ [.string ch.k, .string ch.v, .bool true]) → (w3.alloc (.cells #[.string ch.k, .string ch.v, .bool true] 52)).grownBy w4 (Value.slice a1 n q).ownBlock → Hid (LR w c Db (all ++ [ch]) (i + 1) w4 a4 n4 c4) := fun a4 n4 c4 w4 ho hg => mkx.out _ _ _ _ _ s3.out ho hg))
                  go_roundw
                  case rel => exact ⟨i + 1, by omega, by omega, by simp, _, _, _, _, rfl, s6⟩
                  case measure => simp; omega
                · have hc19 : Hid (∀ W g qq, Hid (LastS w N c Db mb S K (all.map nrm) all i W (.slice a1 n q)) → W.cell? ⟨g, 0, none⟩ = some (.string ch.k) → Calls Tryz.prog 19 #[.pointer (some ⟨c, 0, none⟩), .slice (some ⟨g, 0, none⟩) 1 qq] W fun e w' => e = .returned (.int .i64 E) ∧ Hid (LastI w c Db (all.map nrm) all (i + 1) w' (.slice a1 n q))) := fun W g qq h hc => hE2 hE W _ g qq h.out hc
                  clear hE1 hE2
                  have hE3 : (E == 0) = false := beq_eq_false_iff_ne.2 hE
                  have hSd : Hid (∀ ob : Obj, LastS w N c Db mb S K (all.map nrm) all i (wr.alloc ob) (.slice a1 n q)) := fun ob => hS.out.below ((Below.refl _ wr).alloc (Nat.le_refl _) ob)
                  go_wp2_with (first
                    | (go_at_call 21; refine (h21.out _ _ _ _ _ _ _ _ (by omega) S5).mono ?_; rintro e w6 ⟨rfl, s6⟩)
                    | (go_at_call 19; refine (hc19.out _ _ _ (hSd.out _) (new_cell wr ch.k)).mono ?_; rintro e w3 ⟨rfl, s3⟩; obtain ⟨m1, m2, m3⟩ := hcb.out w3 s3.out.bel; have S5 : Hid (LR w c Db all (i + 1) w3 a1 n q) := ⟨hnl.out, by omega, s3.out⟩; clear s3))
                  go_roundw
                  case rel => exact ⟨i + 1, by omega, by omega, by simp, _, _, _, _, rfl, s6⟩
                  case measure => simp; omega
              · have hm2 : (m == 0) = false := beq_eq_false_iff_ne.2 hm0
                by_cases hE : E = 0
                · subst hE
                  have hc19 : Hid (∀ W g qq, Hid (LastS w N c Db mb S K (all.map nrm) all i W (.slice a1 n q)) → W.cell? ⟨g, 0, none⟩ = some (.string ch.k) → Calls Tryz.prog 19 #[.pointer (some ⟨c, 0, none⟩), .slice (some ⟨g, 0, none⟩) 1 qq] W fun e w' => e = .returned (.int .i64 0) ∧ Hid (LastI w c Db (all.map nrm ++ [nrm ch]) all (i + 1) w' (.slice a1 n q))) := fun W g qq h hc => hE1 rfl W _ g qq h.out hc
                  clear hE1 hE2
                  have hSd : Hid (∀ ob : Obj, LastS w N c Db mb S K (all.map nrm) all i (wr.alloc ob) (.slice a1 n q)) := fun ob => hS.out.below ((Below.refl _ wr).alloc (Nat.le_refl _) ob)
                  go_wp2_with (first
                    | (at_builtin; go_loud (refine wpList_append_src rfl _ _ 48 rfl w.heap.size 52 i52 (.agg #[.string ⟨#[]⟩, .string ⟨#[]⟩, .bool false]) 3 40 Tryz.underlying48 hi52 hz0 hz1 hz2 rfl (by decide) _ _ _ (W3R.alloc _) rfl [.string ch.k, .string ch.v, .bool true] (some ⟨w3.heap.size, 0, none⟩) 1 1 rfl rfl (fun _ => ⟨_, rfl, new_three w3 ch.k ch.v true⟩) (by simp [Value.oneCell']) (by unfold maxLen; omega) (by omega) (by have := s3.out.bel.size; simp; omega) ?_; intro v4 w4 own4 grow4 loc4; clear loc4; obtain ⟨a4, c4, rfl⟩ := row_slice own4; have s4 := mk4 _ _ _ _ own4 grow4; clear own4 grow4))
                    | (go_at_call 19; refine (hc19.out _ _ _ (hSd.out _) (new_cell wr ch.k)).mono ?_; rintro e w3 ⟨rfl, s3⟩; obtain ⟨m1, m2, m3⟩ := hcb.out w3 s3.out.bel; have W3R := s3.out.row; rw [← hnl.out] at W3R; have mk4 : ∀ (a4 : Option Addr) n4 c4 (w4 : World), w4.ownsRow w.heap.size 52 3 (.slice a4 n4 c4) (n + 1) (rowI all ++ [.string ch.k, .string ch.v, .bool true]) → (w3.alloc (.cells #[.string ch.k, .string ch.v, .bool true] 52)).grownBy w4 (Value.slice a1 n q).ownBlock → Hid (LR w c Db (all ++ [ch]) (i + 1) w4 a4 n4 c4) := fun a4 n4 c4 w4 ho hg => mkx.out _ _ _ _ _ s3.out ho hg))
                  go_roundw
                  case rel => exact ⟨i + 1, by omega, by omega, by simp, _, _, _, _, rfl, s4⟩
                  case measure => simp; omega
                · have hc19 : Hid (∀ W g qq, Hid (LastS w N c Db mb S K (all.map nrm) all i W (.slice a1 n q)) → W.cell? ⟨g, 0, none⟩ = some (.string ch.k) → Calls Tryz.prog 19 #[.pointer (some ⟨c, 0, none⟩), .slice (some ⟨g, 0, none⟩) 1 qq] W fun e w' => e = .returned (.int .i64 E) ∧ Hid (LastI w c Db (all.map nrm) all (i + 1) w' (.slice a1 n q))) := fun W g qq h hc => hE2 hE W _ g qq h.out hc
                  clear hE1 hE2
                  have hE3 : (E == 0) = false := beq_eq_false_iff_ne.2 hE
                  have hSd : Hid (∀ ob : Obj, LastS w N c Db mb S K (all.map nrm) all i (wr.alloc ob) (.slice a1 n q)) := fun ob => hS.out.below ((Below.refl _ wr).alloc (Nat.le_refl _) ob)
                  go_wp2_with (first
                    | (go_at_call 19; refine (hc19.out _ _ _ (hSd.out _) (new_cell wr ch.k)).mono ?_; rintro e w3 ⟨rfl, s3⟩; obtain ⟨m1, m2, m3⟩ := hcb.out w3 s3.out.bel; have S5 : Hid (LR w c Db all (i + 1) w3 a1 n q) := ⟨hnl.out, by omega, s3.out⟩; clear s3))
                  go_roundw
                  case rel => exact ⟨i + 1, by omega, by omega, by simp, _, _, _, _, rfl, S5⟩
                  case measure => simp; omega
            · have hk3 : decide (0 < kk) = false := decide_eq_false (by omega)
              have hk4 : ¬ 0 < kk := by omega
              by_cases hE : E = 0
              · subst hE
                have hc19 : Hid (∀ W g qq, Hid (LastS w N c Db mb S K (all.map nrm) all i W (.slice a1 n q)) → W.cell? ⟨g, 0, none⟩ = some (.string ch.k) → Calls Tryz.prog 19 #[.pointer (some ⟨c, 0, none⟩), .slice (some ⟨g, 0, none⟩) 1 qq] W fun e w' => e = .returned (.int .i64 0) ∧ Hid (LastI w c Db (all.map nrm ++ [nrm ch]) all (i + 1) w' (.slice a1 n q))) := fun W g qq h hc => hE1 rfl W _ g qq h.out hc
                clear hE1 hE2
                have hSd : Hid (∀ ob : Obj, LastS w N c Db mb S K (all.map nrm) all i (wr.alloc ob) (.slice a1 n q)) := fun ob => hS.out.below ((Below.refl _ wr).alloc (Nat.le_refl _) ob)
                go_wp2_with (first
                  | (at_builtin; go_loud (refine wpList_append_src rfl _ _ 48 rfl w.heap.size 52 i52 (.agg #[.string ⟨#[]⟩, .string ⟨#[]⟩, .bool false]) 3 40 Tryz.underlying48 hi52 hz0 hz1 hz2 rfl (by decide) _ _ _ (W3R.alloc _) rfl [.string ch.k, .string ch.v, .bool true] (some ⟨w3.heap.size, 0, none⟩) 1 1 rfl rfl (fun _ => ⟨_, rfl, new_three w3 ch.k ch.v true⟩) (by simp [Value.oneCell']) (by unfold maxLen; omega) (by omega) (by have := s3.out.bel.size; simp; omega) ?_; intro v4 w4 own4 grow4 loc4; clear loc4; obtain ⟨a4, c4, rfl⟩ := row_slice own4; have s4 := mk4 _ _ _ _ own4 grow4; clear own4 grow4))
                  | (go_at_call 19; refine (hc19.out _ _ _ (hSd.out _) (new_cell wr ch.k)).mono ?_; rintro e w3 ⟨rfl, s3⟩; obtain ⟨m1, m2, m3⟩ := hcb.out w3 s3.out.bel; have W3R := s3.out.row; rw [← hnl.out] at W3R; have mk4 : ∀ (a4 : Option Addr) n4 c4 (w4 : World), w4.ownsRow w.heap.size 52 3 (.slice a4 n4 c4) (n + 1) (rowI all ++ [.string ch.k, .string ch.v, .bool true]) → (w3.alloc (.cells #[.string ch.k, .string ch.v, .bool true] 52)).grownBy w4 (Value.slice a1 n q).ownBlock → Hid (LR w c Db (all ++ [ch]) (i + 1) w4 a4 n4 c4) := fun a4 n4 c4 w4 ho hg => mkx.out _ _ _ _ _ s3.out ho hg))
                go_roundw
                case rel => exact ⟨i + 1, by omega, by omega, by simp, _, _, _, _, rfl, s4⟩
                case measure => simp; omega
              · have hc19 : Hid (∀ W g qq, Hid (LastS w N c Db mb S K (all.map nrm) all i W (.slice a1 n q)) → W.cell? ⟨g, 0, none⟩ = some (.string ch.k) → Calls Tryz.prog 19 #[.pointer (some ⟨c, 0, none⟩), .slice (some ⟨g, 0, none⟩) 1 qq] W fun e w' => e = .returned (.int .i64 E) ∧ Hid (LastI w c Db (all.map nrm) all (i + 1) w' (.slice a1 n q))) := fun W g qq h hc => hE2 hE W _ g qq h.out hc
                clear hE1 hE2
                have hE3 : (E == 0) = false := beq_eq_false_iff_ne.2 hE
                have hSd : Hid (∀ ob : Obj, LastS w N c Db mb S K (all.map nrm) all i (wr.alloc ob) (.slice a1 n q)) := fun ob => hS.out.below ((Below.refl _ wr).alloc (Nat.le_refl _) ob)
                go_wp2_with (first
                  | (go_at_call 19; refine (hc19.out _ _ _ (hSd.out _) (new_cell wr ch.k)).mono ?_; rintro e w3 ⟨rfl, s3⟩; obtain ⟨m1, m2, m3⟩ := hcb.out w3 s3.out.bel; have S5 : Hid (LR w c Db all (i + 1) w3 a1 n q) := ⟨hnl.out, by omega, s3.out⟩; clear s3))
                go_roundw
                case rel => exact ⟨i + 1, by omega, by omega, by simp, _, _, _, _, rfl, S5⟩
                case measure => simp; omega
          · obtain ⟨E, hE1, hE2⟩ := last_put hS (by omega) ch hd
            have hS : Hid _ := hS
            clear hch
            rcases Int.lt_or_le 0 kk with hkp | hkp
            · obtain ⟨m, hm⟩ : ∃ m, Int.tmod (i : Int) kk = m := ⟨_, rfl⟩
              have hm1 : 0 ≤ m ∧ m < 20 := by rw [← hm]; exact ⟨Int.tmod_nonneg _ (by omega), by have := Int.tmod_lt_of_pos (i : Int) hkp; omega⟩
              have hmw : IntKind.i64.wrap m = m := by simp [IntKind.wrap, IntKind.bits, IntKind.signed]; omega
              have hk1 : (kk == 0) = false := beq_eq_false_iff_ne.2 (by omega)
              have hk2 : ¬ kk = 0 := by omega
              have hk3 : decide (0 < kk) = true := decide_eq_true hkp
              by_cases hm0 : m = 0
              · rw [hm0] at hm hmw
                by_cases hE : E = 0
                · subst hE
                  have hc18 : Hid (∀ W, Hid (LastS w N c Db mb S K (all.map nrm) all i W (.slice a1 n q)) → Calls Tryz.prog 18 #[.pointer (some ⟨c, 0, none⟩), .string ch.k, .string ch.v] W fun e w' => e = .returned (.int .i64 0) ∧ Hid (LastI w c Db (all.map nrm ++ [nrm ch]) all (i + 1) w' (.slice a1 n q))) := fun W h => hE1 rfl W _ h.out
                  clear hE1 hE2
                  have hSd : Hid (LastS w N c Db mb S K (all.map nrm) all i wr.drew (.slice a1 n q)) := hS.out.drew
                  go_wp2_with fail
                  go_region_held3 (fun w' => w'.cell? ⟨b, o + i * 3, none⟩ = some (.string ch.k) ∧ w'.cell? ⟨b, o + i * 3 + 1, none⟩ = some (.string ch.v)) (go_keep) (first | (go_at_call 18; refine (hc18.out _ hSd).mono ?_; rintro e w3 ⟨rfl, s3⟩; obtain ⟨m1, m2, m3⟩ := hcb.out w3 s3.out.bel; have W3R := s3.out.row; rw [← hnl.out] at W3R; have mk4 : ∀ (a4 : Option Addr) n4 c4 (w4 : World), w4.ownsRow w.heap.size 52 3 (.slice a4 n4 c4) (n + 1) (rowI all ++ [.string ch.k, .string ch.v, .bool false]) → (w3.alloc (.cells #[.string ch.k, .string ch.v, .bool false] 52)).grownBy w4 (Value.slice a1 n q).ownBlock → Hid (LR w c Db (all ++ [ch]) (i + 1) w4 a4 n4 c4) := fun a4 n4 c4 w4 ho hg => mkx.out _ _ _ _ _ s3.out ho hg))
                  go_wp2_with (first
                    | (go_at_call 21; refine (h21.out _ _ _ _ _ _ _ _ (by omega) s4).mono ?_; rintro e w6 ⟨rfl, s6⟩)
                    | (at_builtin; go_loud (refine wpList_append_src rfl _ _ 48 rfl w.heap.size 52 i52 (.agg #[.string ⟨#[]⟩, .string ⟨#[]⟩, .bool false]) 3 40 Tryz.underlying48 hi52 hz0 hz1 hz2 rfl (by decide) _ _ _ (W3R.alloc _) rfl [.string ch.k, .string ch.v, .bool false] (some ⟨w3.heap.size, 0, none⟩) 1 1 rfl rfl (fun _ => ⟨_, rfl, new_three w3 ch.k ch.v false⟩) (by simp [Value.oneCell']) (by unfold maxLen; omega) (by omega) (by have := s3.out.bel.size; simp; omega) ?_; intro v4 w4 own4 grow4 loc4; clear loc4; obtain ⟨a4, c4, rfl⟩ := row_slice own4; have s4 := mk4 _ _ _ _ own4 grow4; clear own4 grow4)))
                  go_roundw
                  case rel => exact ⟨i + 1, by omega, by omega, by simp, _, _, _, _, rfl, s6⟩
                  case measure => simp; omega
                · have hc18 : Hid (∀ W, Hid (LastS w N c Db mb S K (all.map nrm) all i W (.slice a1 n q)) → Calls Tryz.prog 18 #[.pointer (some ⟨c, 0, none⟩), .string ch.k, .string ch.v] W fun e w' => e = .returned (.int .i64 E) ∧ Hid (LastI w c Db (all.map nrm) all (i + 1) w' (.slice a1 n q))) := fun W h => hE2 hE W _ h.out
                  clear hE1 hE2
                  have hE3 : (E == 0) = false := beq_eq_false_iff_ne.2 hE
                  have hSd : Hid (LastS w N c Db mb S K (all.map nrm) all i wr.drew (.slice a1 n q)) := hS.out.drew
                  go_wp2_with fail
                  go_region_held3 (fun w' => w'.cell? ⟨b, o + i * 3, none⟩ = some (.string ch.k) ∧ w'.cell? ⟨b, o + i * 3 + 1, none⟩ = some (.string ch.v)) (go_keep) (first | (go_at_call 18; refine (hc18.out _ hSd).mono ?_; rintro e w3 ⟨rfl, s3⟩; obtain ⟨m1, m2, m3⟩ := hcb.out w3 s3.out.bel; have S5 : Hid (LR w c Db all (i + 1) w3 a1 n q) := ⟨hnl.out, by omega, s3.out⟩; clear s3))
                  go_wp2_with (first
                    | (go_at_call 21; refine (h21.out _ _ _ _ _ _ _ _ (by omega) S5).mono ?_; rintro e w6 ⟨rfl, s6⟩))
                  go_roundw
                  case rel => exact ⟨i + 1, by omega, by omega, by simp, _, _, _, _, rfl, s6⟩
                  case measure => simp; omega
              · have hm2 : (m == 0) = false := beq_eq_false_iff_ne.2 hm0
                by_cases hE : E = 0
                · subst hE
                  have hc18 : Hid (∀ W, Hid (LastS w N c Db mb S K (all.map nrm) all i W (.slice a1 n q)) → Calls Tryz.prog 18 #[.pointer (some ⟨c, 0, none⟩), .string ch.k, .string ch.v] W fun e w' => e = .returned (.int .i64 0) ∧ Hid (LastI w c Db (all.map nrm ++ [nrm ch]) all (i + 1) w' (.slice a1 n q))) := fun W h => hE1 rfl W _ h.out
                  clear hE1 hE2
                  have hSd : Hid (LastS w N c Db mb S K (all.map nrm) all i wr.drew (.slice a1 n q)) := hS.out.drew
                  go_wp2_with fail
                  go_region_held3 (fun w' => w'.cell? ⟨b, o + i * 3, none⟩ = some (.string ch.k) ∧ w'.cell? ⟨b, o + i * 3 + 1, none⟩ = some (.string ch.v)) (go_keep) (first | (go_at_call 18; refine (hc18.out _ hSd).mono ?_; rintro e w3 ⟨rfl, s3⟩; obtain ⟨m1, m2, m3⟩ := hcb.out w3 s3.out.bel; have W3R := s3.out.row; rw [← hnl.out] at W3R; have mk4 : ∀ (a4 : Option Addr) n4 c4 (w4 : World), w4.ownsRow w.heap.size 52 3 (.slice a4 n4 c4) (n + 1) (rowI all ++ [.string ch.k, .string ch.v, .bool false]) → (w3.alloc (.cells #[.string ch.k, .string ch.v, .bool false] 52)).grownBy w4 (Value.slice a1 n q).ownBlock → Hid (LR w c Db (all ++ [ch]) (i + 1) w4 a4 n4 c4) := fun a4 n4 c4 w4 ho hg => mkx.out _ _ _ _ _ s3.out ho hg))
                  go_wp2_with (first
                    | (at_builtin; go_loud (refine wpList_append_src rfl _ _ 48 rfl w.heap.size 52 i52 (.agg #[.string ⟨#[]⟩, .string ⟨#[]⟩, .bool false]) 3 40 Tryz.underlying48 hi52 hz0 hz1 hz2 rfl (by decide) _ _ _ (W3R.alloc _) rfl [.string ch.k, .string ch.v, .bool false] (some ⟨w3.heap.size, 0, none⟩) 1 1 rfl rfl (fun _ => ⟨_, rfl, new_three w3 ch.k ch.v false⟩) (by simp [Value.oneCell']) (by unfold maxLen; omega) (by omega) (by have := s3.out.bel.size; simp; omega) ?_; intro v4 w4 own4 grow4 loc4; clear loc4; obtain ⟨a4, c4, rfl⟩ := row_slice own4; have s4 := mk4 _ _ _ _ own4 grow4; clear own4 grow4)))
                  go_roundw
                  case rel => exact ⟨i + 1, by omega, by omega, by simp, _, _, _, _, rfl, s4⟩
                  case measure => simp; omega
                · have hc18 : Hid (∀ W, Hid (LastS w N c Db mb S K (all.map nrm) all i W (.slice a1 n q)) → Calls Tryz.prog 18 #[.pointer (some ⟨c, 0, none⟩), .string ch.k, .string ch.v] W fun e w' => e = .returned (.int .i64 E) ∧ Hid (LastI w c Db (all.map nrm) all (i + 1) w' (.slice a1 n q))) := fun W h => hE2 hE W _ h.out
                  clear hE1 hE2
                  have hE3 : (E == 0) = false := beq_eq_false_iff_ne.2 hE
                  have hSd : Hid (LastS w N c Db mb S K (all.map nrm) all i wr.drew (.slice a1 n q)) := hS.out.drew
                  go_wp2_with fail
                  go_region_held3 (fun w' => w'.cell? ⟨b, o + i * 3, none⟩ = some (.string ch.k) ∧ w'.cell? ⟨b, o + i * 3 + 1, none⟩ = some (.string ch.v)) (go_keep) (first | (go_at_call 18; refine (hc18.out _ hSd).mono ?_; rintro e w3 ⟨rfl, s3⟩; obtain ⟨m1, m2, m3⟩ := hcb.out w3 s3.out.bel; have S5 : Hid (LR w c Db all (i + 1) w3 a1 n q) := ⟨hnl.out, by omega, s3.out⟩; clear s3))
                  go_wp2
                  go_roundw
                  case rel => exact ⟨i + 1, by omega, by omega, by simp, _, _, _, _, rfl, S5⟩
                  case measure => simp; omega
            · have hk3 : decide (0 < kk) = false := decide_eq_false (by omega)
              have hk4 : ¬ 0 < kk := by omega
              by_cases hE : E = 0
              · subst hE
                have hc18 : Hid (∀ W, Hid (LastS w N c Db mb S K (all.map nrm) all i W (.slice a1 n q)) → Calls Tryz.prog 18 #[.pointer (some ⟨c, 0, none⟩), .string ch.k, .string ch.v] W fun e w' => e = .returned (.int .i64 0) ∧ Hid (LastI w c Db (all.map nrm ++ [nrm ch]) all (i + 1) w' (.slice a1 n q))) := fun W h => hE1 rfl W _ h.out
                clear hE1 hE2
                have hSd : Hid (LastS w N c Db mb S K (all.map nrm) all i wr.drew (.slice a1 n q)) := hS.out.drew
                go_wp2_with fail
                go_region_held3 (fun w' => w'.cell? ⟨b, o + i * 3, none⟩ = some (.string ch.k) ∧ w'.cell? ⟨b, o + i * 3 + 1, none⟩ = some (.string ch.v)) (go_keep) (first | (go_at_call 18; refine (hc18.out _ hSd).mono ?_; rintro e w3 ⟨rfl, s3⟩; obtain ⟨m1, m2, m3⟩ := hcb.out w3 s3.out.bel; have W3R := s3.out.row; rw [← hnl.out] at W3R; have mk4 : ∀ (a4 : Option Addr) n4 c4 (w4 : World), w4.ownsRow w.heap.size 52 3 (.slice a4 n4 c4) (n + 1) (rowI all ++ [.string ch.k, .string ch.v, .bool false]) → (w3.alloc (.cells #[.string ch.k, .string ch.v, .bool false] 52)).grownBy w4 (Value.slice a1 n q).ownBlock → Hid (LR w c Db (all ++ [ch]) (i + 1) w4 a4 n4 c4) := fun a4 n4 c4 w4 ho hg => mkx.out _ _ _ _ _ s3.out ho hg))
                go_wp2_with (first
                  | (at_builtin; go_loud (refine wpList_append_src rfl _ _ 48 rfl w.heap.size 52 i52 (.agg #[.string ⟨#[]⟩, .string ⟨#[]⟩, .bool false]) 3 40 Tryz.underlying48 hi52 hz0 hz1 hz2 rfl (by decide) _ _ _ (W3R.alloc _) rfl [.string ch.k, .string ch.v, .bool false] (some ⟨w3.heap.size, 0, none⟩) 1 1 rfl rfl (fun _ => ⟨_, rfl, new_three w3 ch.k ch.v false⟩) (by simp [Value.oneCell']) (by unfold maxLen; omega) (by omega) (by have := s3.out.bel.size; simp; omega) ?_; intro v4 w4 own4 grow4 loc4; clear loc4; obtain ⟨a4, c4, rfl⟩ := row_slice own4; have s4 := mk4 _ _ _ _ own4 grow4; clear own4 grow4)))
                go_roundw
                case rel => exact ⟨i + 1, by omega, by omega, by simp, _, _, _, _, rfl, s4⟩
                case measure => simp; omega
              · have hc18 : Hid (∀ W, Hid (LastS w N c Db mb S K (all.map nrm) all i W (.slice a1 n q)) → Calls Tryz.prog 18 #[.pointer (some ⟨c, 0, none⟩), .string ch.k, .string ch.v] W fun e w' => e = .returned (.int .i64 E) ∧ Hid (LastI w c Db (all.map nrm) all (i + 1) w' (.slice a1 n q))) := fun W h => hE2 hE W _ h.out
                clear hE1 hE2
                have hE3 : (E == 0) = false := beq_eq_false_iff_ne.2 hE
                have hSd : Hid (LastS w N c Db mb S K (all.map nrm) all i wr.drew (.slice a1 n q)) := hS.out.drew
                go_wp2_with fail
                go_region_held3 (fun w' => w'.cell? ⟨b, o + i * 3, none⟩ = some (.string ch.k) ∧ w'.cell? ⟨b, o + i * 3 + 1, none⟩ = some (.string ch.v)) (go_keep) (first | (go_at_call 18; refine (hc18.out _ hSd).mono ?_; rintro e w3 ⟨rfl, s3⟩; obtain ⟨m1, m2, m3⟩ := hcb.out w3 s3.out.bel; have S5 : Hid (LR w c Db all (i + 1) w3 a1 n q) := ⟨hnl.out, by omega, s3.out⟩; clear s3))
                go_wp2
                go_roundw
                case rel => exact ⟨i + 1, by omega, by omega, by simp, _, _, _, _, rfl, S5⟩
                case measure => simp; omega
        · have g1 : (i : Int) < (LN : Int) := by omega
          have g3 : ¬ (i : Int) < 80 := by omega
          have g5 : decide ((i : Int) < 80) = false := decide_eq_false g3
          have hi80 : Hid (i ≤ 80) := hi
          have h15 : Hid (∀ W k, k.size ≤ maxLen → Hid (LR w c Db all i W a1 n q) → Calls Tryz.prog 15 #[.pointer (some ⟨c, 0, none⟩), .string k] W fun e w' => e = .returned (.tuple #[.string (getV (kvOf all) k), .int .i64 (getE (kvOf all) k)]) ∧ Hid (LR w c Db all i w' a1 n q)) := fun W k hk h => (last_get h.out.2.2 rfl k hk).mono fun e w' ⟨e1, e2⟩ => ⟨e1, h.out.1, h.out.2.1, e2⟩
          have h37 : Hid (∀ W k, Hid (LR w c Db all i W a1 n q) → Calls Tryz.prog 37 #[.slice a1 n q, .string k] W fun e w' => e = .returned (.tuple #[.string (getV (kvOf all) k), .int .i64 (getE (kvOf all) k)]) ∧ Hid (LR w c Db all i w' a1 n q)) := fun W k h => (last_ref h.out.2.2 k (by have := h.out.1; have := h.out.2.1; omega)).mono fun e w' ⟨e1, e2⟩ => ⟨e1, h.out.1, h.out.2.1, e2⟩
          have h23 : Hid (∀ W, Hid (LR w c Db all i W a1 n q) → Calls Tryz.prog 23 #[.pointer (some ⟨c, 0, none⟩)] W fun e w' => ∃ a2 n2 q2, e = .returned (.slice a2 n2 q2) ∧ Hid (LR w c Db all i w' a1 n q ∧ w'.ownsRow w.heap.size 103 2 (.slice a2 n2 q2) (kvL (kvOf all)).length (cellsP (kvL (kvOf all))))) := fun W h => (last_fold h.out.2.2 rfl).mono fun e w' ⟨a2, n2, q2, e1, e2, e3⟩ => ⟨a2, n2, q2, e1, ⟨h.out.1, h.out.2.1, e2⟩, e3⟩
          have h33 : Hid (∀ W u, Hid (LR w c Db all i W a1 n q ∧ W.ownsRow w.heap.size 103 2 u (kvL (kvOf all)).length (cellsP (kvL (kvOf all)))) → Calls Tryz.prog 33 #[.slice a1 n q] W fun e w' => ∃ a2 n2 q2, e = .returned (.slice a2 n2 q2) ∧ Hid (w'.ownsRow w.heap.size 103 2 (.slice a2 n2 q2) (kvL (kvOf all)).length (cellsP (kvL (kvOf all))) ∧ w'.ownsRow w.heap.size 103 2 u (kvL (kvOf all)).length (cellsP (kvL (kvOf all))) ∧ Below w.heap.size w w')) := fun W u h => last_rfold h.out.1.2.2 h.out.2 (by have := h.out.1.1; have := h.out.1.2.1; omega)
          have hal : Hid (all.length ≤ 1000) := by show _ ≤ _; have := hI.out.1; have := hI.out.2.1; omega
          have h32 : Hid (∀ W u x, Hid (W.ownsRow w.heap.size 103 2 x (kvL (kvOf all)).length (cellsP (kvL (kvOf all))) ∧ W.ownsRow w.heap.size 103 2 u (kvL (kvOf all)).length (cellsP (kvL (kvOf all))) ∧ Below w.heap.size w W) → Calls Tryz.prog 32 #[u, x] W fun e w' => e = .returned (.bool true) ∧ Hid (Below w.heap.size w w')) := fun W u x h => last_same h.out hal.out
          have hcell : Hid (∀ W j ch, all[j]? = some ch → Hid (LR w c Db all i W a1 n q) → ∃ b o, a1 = some ⟨b, o, none⟩ ∧ W.cell? ⟨b, o + j * 3, none⟩ = some (.string ch.k)) := fun W j ch hj h => lr_cell h.out hj
          have hn : Hid (n = all.length) := hI.out.1
          have hoks : Hid (∀ x ∈ all, x.k.size ≤ maxLen) := lr_keys hI.out
          have hn63 : n ≤ 1000 := by have := hn.out; have := hal.out; omega
          go_wp2
          go_loopw [13] (fun p wr => ∃ j : Nat, j ≤ n ∧ p = .int .i64 (j : Int) ∧ Hid (LR w c Db all i wr a1 n q)) (fun p _ => n - (intOf p).toNat)
          case atStart => exact ⟨0, Nat.zero_le _, rfl, hI⟩
          case round =>
            obtain ⟨j, hj, rfl, hJ⟩ := hrel
            clear hI
            rcases Nat.lt_or_ge j n with hjl | hjg
            · have hn' := hn.out
              obtain ⟨ch, hch⟩ : ∃ ch, all[j]? = some ch := ⟨_, List.getElem?_eq_getElem (by omega)⟩
              have hsz : ch.k.size ≤ maxLen := hoks.out ch (List.mem_of_getElem? hch)
              obtain ⟨b, o, rfl, x0⟩ := hcell.out _ _ _ hch hJ
              obtain ⟨k, hk⟩ : ∃ k, ch.k = k := ⟨_, rfl⟩
              rw [hk] at hsz x0
              have hcl : Hid (∀ W, Hid (LR w c Db all i W (some ⟨b, o, none⟩) n q) → W.cell? ⟨b, o + j * 3, none⟩ = some (.string k)) := fun W h => by
                obtain ⟨b', o', e, e'⟩ := hcell.out _ _ _ hch h
                cases e
                rw [← hk]; exact e'
              have h15 : Hid (∀ W, Hid (LR w c Db all i W (some ⟨b, o, none⟩) n q) → Calls Tryz.prog 15 #[.pointer (some ⟨c, 0, none⟩), .string k] W fun e w' => e = .returned (.tuple #[.string (getV (kvOf all) k), .int .i64 (getE (kvOf all) k)]) ∧ Hid (LR w c Db all i w' (some ⟨b, o, none⟩) n q)) := fun W h => h15.out W k hsz h
              have h37 : Hid (∀ W, Hid (LR w c Db all i W (some ⟨b, o, none⟩) n q) → Calls Tryz.prog 37 #[.slice (some ⟨b, o, none⟩) n q, .string k] W fun e w' => e = .returned (.tuple #[.string (getV (kvOf all) k), .int .i64 (getE (kvOf all) k)]) ∧ Hid (LR w c Db all i w' (some ⟨b, o, none⟩) n q)) := fun W h => h37.out W k h
              obtain ⟨V, hV⟩ : ∃ V, getV (kvOf all) k = V := ⟨_, rfl⟩
              obtain ⟨E, hE⟩ : ∃ E, getE (kvOf all) k = E := ⟨_, rfl⟩
              rw [hV, hE] at h15 h37
              have g1 : (j : Int) < (n : Int) := by omega
              have g2 : (0 : Int) ≤ (j : Int) := by omega
              have g4 : IntKind.i64.wrap ((j : Int) + 1) = (j : Int) + 1 := by simp [IntKind.wrap, IntKind.bits, IntKind.signed]; omega
              clear hV hE hch hsz hcell h23 h33 h32 hk hn'
              go_wp2_with (first
                | (go_at_call 37; refine (h37.out _ t1).mono ?_; rintro e wt ⟨rfl, t2⟩)
                | (go_at_call 15; refine (h15.out _ hJ).mono ?_; rintro e wg ⟨rfl, t1⟩; have x1 := hcl.out _ t1))
              go_roundw
              case rel => exact ⟨j + 1, by omega, by simp, t2⟩
              case measure => simp; omega
            · obtain rfl : j = n := by omega
              clear h15 h37 hcell
              go_wp2_with (first
                | (go_at_call 32; refine (h32.out _ _ _ t3).mono ?_; rintro e w7 ⟨rfl, t4⟩)
                | (go_at_call 33; refine (h33.out _ _ t2).mono ?_; rintro e w6 ⟨a3, n3, q3, rfl, t3⟩)
                | (go_at_call 23; refine (h23.out _ hJ).mono ?_; rintro e w5 ⟨a2, n2, q2, rfl, t2⟩))
              go_ret
              exact ⟨rfl, t4.out⟩
      · obtain rfl : i = LN := by omega
        have h15 : Hid (∀ W k, k.size ≤ maxLen → Hid (LR w c Db all i W a1 n q) → Calls Tryz.prog 15 #[.pointer (some ⟨c, 0, none⟩), .string k] W fun e w' => e = .returned (.tuple #[.string (getV (kvOf all) k), .int .i64 (getE (kvOf all) k)]) ∧ Hid (LR w c Db all i w' a1 n q)) := fun W k hk h => (last_get h.out.2.2 rfl k hk).mono fun e w' ⟨e1, e2⟩ => ⟨e1, h.out.1, h.out.2.1, e2⟩
        have h37 : Hid (∀ W k, Hid (LR w c Db all i W a1 n q) → Calls Tryz.prog 37 #[.slice a1 n q, .string k] W fun e w' => e = .returned (.tuple #[.string (getV (kvOf all) k), .int .i64 (getE (kvOf all) k)]) ∧ Hid (LR w c Db all i w' a1 n q)) := fun W k h => (last_ref h.out.2.2 k (by have := h.out.1; have := h.out.2.1; omega)).mono fun e w' ⟨e1, e2⟩ => ⟨e1, h.out.1, h.out.2.1, e2⟩
        have h23 : Hid (∀ W, Hid (LR w c Db all i W a1 n q) → Calls Tryz.prog 23 #[.pointer (some ⟨c, 0, none⟩)] W fun e w' => ∃ a2 n2 q2, e = .returned (.slice a2 n2 q2) ∧ Hid (LR w c Db all i w' a1 n q ∧ w'.ownsRow w.heap.size 103 2 (.slice a2 n2 q2) (kvL (kvOf all)).length (cellsP (kvL (kvOf all))))) := fun W h => (last_fold h.out.2.2 rfl).mono fun e w' ⟨a2, n2, q2, e1, e2, e3⟩ => ⟨a2, n2, q2, e1, ⟨h.out.1, h.out.2.1, e2⟩, e3⟩
        have h33 : Hid (∀ W u, Hid (LR w c Db all i W a1 n q ∧ W.ownsRow w.heap.size 103 2 u (kvL (kvOf all)).length (cellsP (kvL (kvOf all)))) → Calls Tryz.prog 33 #[.slice a1 n q] W fun e w' => ∃ a2 n2 q2, e = .returned (.slice a2 n2 q2) ∧ Hid (w'.ownsRow w.heap.size 103 2 (.slice a2 n2 q2) (kvL (kvOf all)).length (cellsP (kvL (kvOf all))) ∧ w'.ownsRow w.heap.size 103 2 u (kvL (kvOf all)).length (cellsP (kvL (kvOf all))) ∧ Below w.heap.size w w')) := fun W u h => last_rfold h.out.1.2.2 h.out.2 (by have := h.out.1.1; have := h.out.1.2.1; omega)
        have hal : Hid (all.length ≤ 1000) := by show _ ≤ _; have := hI.out.1; have := hI.out.2.1; omega
        have h32 : Hid (∀ W u x, Hid (W.ownsRow w.heap.size 103 2 x (kvL (kvOf all)).length (cellsP (kvL (kvOf all))) ∧ W.ownsRow w.heap.size 103 2 u (kvL (kvOf all)).length (cellsP (kvL (kvOf all))) ∧ Below w.heap.size w W) → Calls Tryz.prog 32 #[u, x] W fun e w' => e = .returned (.bool true) ∧ Hid (Below w.heap.size w w')) := fun W u x h => last_same h.out hal.out
        have hcell : Hid (∀ W j ch, all[j]? = some ch → Hid (LR w c Db all i W a1 n q) → ∃ b o, a1 = some ⟨b, o, none⟩ ∧ W.cell? ⟨b, o + j * 3, none⟩ = some (.string ch.k)) := fun W j ch hj h => lr_cell h.out hj
        have hn : Hid (n = all.length) := hI.out.1
        have hoks : Hid (∀ x ∈ all, x.k.size ≤ maxLen) := lr_keys hI.out
        have hn63 : n ≤ 1000 := by have := hn.out; have := hal.out; omega
        go_wp2
        go_loopw [13] (fun p wr => ∃ j : Nat, j ≤ n ∧ p = .int .i64 (j : Int) ∧ Hid (LR w c Db all i wr a1 n q)) (fun p _ => n - (intOf p).toNat)
        case atStart => exact ⟨0, Nat.zero_le _, rfl, hI⟩
        case round =>
          obtain ⟨j, hj, rfl, hJ⟩ := hrel
          clear hI
          rcases Nat.lt_or_ge j n with hjl | hjg
          · have hn' := hn.out
            obtain ⟨ch, hch⟩ : ∃ ch, all[j]? = some ch := ⟨_, List.getElem?_eq_getElem (by omega)⟩
            have hsz : ch.k.size ≤ maxLen := hoks.out ch (List.mem_of_getElem? hch)
            obtain ⟨b, o, rfl, x0⟩ := hcell.out _ _ _ hch hJ
            obtain ⟨k, hk⟩ : ∃ k, ch.k = k := ⟨_, rfl⟩
            rw [hk] at hsz x0
            have hcl : Hid (∀ W, Hid (LR w c Db all i W (some ⟨b, o, none⟩) n q) → W.cell? ⟨b, o + j * 3, none⟩ = some (.string k)) := fun W h => by
              obtain ⟨b', o', e, e'⟩ := hcell.out _ _ _ hch h
              cases e
              rw [← hk]; exact e'
            have h15 : Hid (∀ W, Hid (LR w c Db all i W (some ⟨b, o, none⟩) n q) → Calls Tryz.prog 15 #[.pointer (some ⟨c, 0, none⟩), .string k] W fun e w' => e = .returned (.tuple #[.string (getV (kvOf all) k), .int .i64 (getE (kvOf all) k)]) ∧ Hid (LR w c Db all i w' (some ⟨b, o, none⟩) n q)) := fun W h => h15.out W k hsz h
            have h37 : Hid (∀ W, Hid (LR w c Db all i W (some ⟨b, o, none⟩) n q) → Calls Tryz.prog 37 #[.slice (some ⟨b, o, none⟩) n q, .string k] W fun e w' => e = .returned (.tuple #[.string (getV (kvOf all) k), .int .i64 (getE (kvOf all) k)]) ∧ Hid (LR w c Db all i w' (some ⟨b, o, none⟩) n q)) := fun W h => h37.out W k h
            obtain ⟨V, hV⟩ : ∃ V, getV (kvOf all) k = V := ⟨_, rfl⟩
            obtain ⟨E, hE⟩ : ∃ E, getE (kvOf all) k = E := ⟨_, rfl⟩
            rw [hV, hE] at h15 h37
            have g1 : (j : Int) < (n : Int) := by omega
            have g2 : (0 : Int) ≤ (j : Int) := by omega
            have g4 : IntKind.i64.wrap ((j : Int) + 1) = (j : Int) + 1 := by simp [IntKind.wrap, IntKind.bits, IntKind.signed]; omega
            clear hV hE hch hsz hcell h23 h33 h32 hk hn'
            go_wp2_with (first
              | (go_at_call 37; refine (h37.out _ t1).mono ?_; rintro e wt ⟨rfl, t2⟩)
              | (go_at_call 15; refine (h15.out _ hJ).mono ?_; rintro e wg ⟨rfl, t1⟩; have x1 := hcl.out _ t1))
            go_roundw
            case rel => exact ⟨j + 1, by omega, by simp, t2⟩
            case measure => simp; omega
          · obtain rfl : j = n := by omega
            clear h15 h37 hcell
            go_wp2_with (first
              | (go_at_call 32; refine (h32.out _ _ _ t3).mono ?_; rintro e w7 ⟨rfl, t4⟩)
              | (go_at_call 33; refine (h33.out _ _ t2).mono ?_; rintro e w6 ⟨a3, n3, q3, rfl, t3⟩)
              | (go_at_call 23; refine (h23.out _ hJ).mono ?_; rintro e w5 ⟨a2, n2, q2, rfl, t2⟩))
            go_ret
            exact ⟨rfl, t4.out⟩
  · obtain ⟨kk, hkk⟩ : ∃ kk, r = kk := ⟨_, rfl⟩
    have hk0 : 0 ≤ kk ∧ kk < 20 := by omega
    have hkw : IntKind.i64.wrap (r) = kk := by rw [hkk]; simp [IntKind.wrap, IntKind.bits, IntKind.signed]; omega
    go_enter Tryz.func7, Tryz.ntmps7
    go_wp2_with (first
      | (go_at_call 16; refine (h16.out _ _ sn).mono ?_; rintro e w2 ⟨c, rfl, s0⟩)
      | (go_at_call 29; refine (h29.out _ sA).mono ?_; rintro e wn ⟨rfl, sn⟩)
      | (go_at_call 17; refine hA.out.mono ?_; rintro e wA ⟨rfl, sA⟩))
    obtain ⟨Db, hDb⟩ : ∃ Db, wA.heap.size = Db := ⟨_, rfl⟩
    rw [hDb] at s0 ⊢
    try rw [hkk]
    clear hA h29 h16 hr hr1 hw1 hkw sn hDb sA hneg hkk
    go_loopw [10, 11] (fun v p wr => ∃ i : Nat, i ≤ 80 ∧ i ≤ LN ∧ p = .int .i64 (i : Int) ∧ ∃ all a1 n q, v = .slice a1 n q ∧ Hid (LR w c Db all i wr a1 n q)) (fun _ p _ => LN - (intOf p).toNat)
    case atStart => exact ⟨0, by omega, by omega, rfl, [], _, _, _, rfl, s0⟩
    case round =>
      obtain ⟨i, hi, hiL, rfl, all, a1, n, q, rfl, hI⟩ := hrel
      clear s0
      rcases Nat.lt_or_ge i LN with hlt | hge
      · rcases Nat.lt_or_ge i 80 with h80 | h80
        · have hlen' := hLN.out
          obtain ⟨ch, hch⟩ : ∃ ch, l[i]? = some ch := ⟨_, List.getElem?_eq_getElem (by omega)⟩
          obtain ⟨b, o, rfl, hb, hcells⟩ := hl.out (fun e => by rw [e] at hch; simp at hch)
          obtain ⟨hnl0, hni, N, mb, S, K, hS⟩ := hI.out
          have hcb : Hid (∀ W, Below w.heap.size w W → W.cell? ⟨b, o + i * 3, none⟩ = some (.string ch.k) ∧ W.cell? ⟨b, o + i * 3 + 1, none⟩ = some (.string ch.v) ∧ W.cell? ⟨b, o + i * 3 + 2, none⟩ = some (.bool ch.dead)) := fun W hB => by
            obtain ⟨c1, c2, c3⟩ := hcells i ch hch
            exact ⟨(hB.cell (p := ⟨b, o + i * 3, none⟩) hb).trans c1, (hB.cell (p := ⟨b, o + i * 3 + 1, none⟩) hb).trans c2, (hB.cell (p := ⟨b, o + i * 3 + 2, none⟩) hb).trans c3⟩
          have hnl : Hid (n = all.length) := hnl0
          clear hnl0
          have mkx : ∀ (w3 : World) (a4 : Option Addr) n4 c4 (w4 : World), LastI w c Db (all.map nrm ++ [nrm ch]) all (i + 1) w3 (.slice a1 n q) → w4.ownsRow w.heap.size 52 3 (.slice a4 n4 c4) (n + 1) (rowI all ++ [.string ch.k, .string ch.v, .bool ch.dead]) → (w3.alloc (.cells #[.string ch.k, .string ch.v, .bool ch.dead] 52)).grownBy w4 (Value.slice a1 n q).ownBlock → Hid (LR w c Db (all ++ [ch]) (i + 1) w4 a4 n4 c4) := fun w3 a4 n4 c4 w4 h ho hg => by
            have e := row_n ho
            rw [hnl.out] at ho
            exact last_app hnl.out hni h hg ho (by rw [e, ← hnl.out])
          have mkx : Hid _ := mkx
          obtain ⟨k1, k2, k3⟩ := hcb.out wr hI.out.bel
          have g1 : (i : Int) < (LN : Int) := by omega
          have g2 : (0 : Int) ≤ (i : Int) := by omega
          have g3 : (i : Int) < 80 := by omega
          have g4 : IntKind.i64.wrap ((i : Int) + 1) = (i : Int) + 1 := by simp [IntKind.wrap, IntKind.bits, IntKind.signed]; omega
          clear hcells hb hI hlen'
          rcases Bool.eq_false_or_eq_true ch.dead with hd | hd
          all_goals rw [hd] at k3 hcb mkx
          · obtain ⟨E, hE1, hE2⟩ := last_del hS (by omega) ch hd (hks.out ch (List.mem_of_getElem? hch))
            have hS : Hid _ := hS
            clear hch
            rcases Int.lt_or_le 0 kk with hkp | hkp
            · obtain ⟨m, hm⟩ : ∃ m, Int.tmod (i : Int) kk = m := ⟨_, rfl⟩
              have hm1 : 0 ≤ m ∧ m < 20 := by rw [← hm]; exact ⟨Int.tmod_nonneg _ (by omega), by have := Int.tmod_lt_of_pos (i : Int) hkp; omega⟩
              have hmw : IntKind.i64.wrap m = m := by simp [IntKind.wrap, IntKind.bits, IntKind.signed]; omega
              have hk1 : (kk == 0) = false := beq_eq_false_iff_ne.2 (by omega)
              have hk2 : ¬ kk = 0 := by omega
              have hk3 : decide (0 < kk) = true := decide_eq_true hkp
              by_cases hm0 : m = 0
              · rw [hm0] at hm hmw
                by_cases hE : E = 0
                · subst hE
                  have hc19 : Hid (∀ W g qq, Hid (LastS w N c Db mb S K (all.map nrm) all i W (.slice a1 n q)) → W.cell? ⟨g, 0, none⟩ = some (.string ch.k) → Calls Tryz.prog 19 #[.pointer (some ⟨c, 0, none⟩), .slice (some ⟨g, 0, none⟩) 1 qq] W fun e w' => e = .returned (.int .i64 0) ∧ Hid (LastI w c Db (all.map nrm ++ [nrm ch]) all (i + 1) w' (.slice a1 n q))) := fun W g qq h hc => hE1 rfl W _ g qq h.out hc
                  clear hE1 hE2
                  have hSd : Hid (∀ ob : Obj, LastS w N c Db mb S K (all.map nrm) all i (wr.alloc ob) (.slice a1 n q)) := fun ob => hS.out.below ((Below.refl _ wr).alloc (Nat.le_refl _) ob)
                  go_wp2_with (first
                    | (go_at_call 21; refine (h21.out _ _ _ _ _ _ _ _ (by omega) s4).mono ?_; rintro e w6 ⟨rfl, s6⟩)
                    | (at_builtin; go_loud (refine wpList_append_src rfl _ _ 48 rfl w.heap.size 52 i52 (.agg #[.string ⟨#[]⟩, .string ⟨#[]⟩, .bool false]) 3 40 Tryz.underlying48 hi52 hz0 hz1 hz2 rfl (by decide) _ _ _ (W3R.alloc _) rfl [.string ch.k, .string ch.v, .bool true] (some ⟨w3.heap.size, 0, none⟩) 1 1 rfl rfl (fun _ => ⟨_, rfl, new_three w3 ch.k ch.v true⟩) (by simp [Value.oneCell']) (by unfold maxLen; omega) (by omega) (by have := s3.out.bel.size; simp; omega) ?_; intro v4 w4 own4 grow4 loc4; clear loc4; obtain ⟨a4, c4, rfl⟩ := row_slice own4; have s4 := mk4 _ _ _ _ own4 grow4; clear own4 grow4))
                    | (go_at_call 19; refine (hc19.out _ _ _ (hSd.out _) (new_cell wr ch.k)).mono ?_; rintro e w3 ⟨rfl, s3⟩; obtain ⟨m1, m2, m3⟩ := hcb.out w3 s3.out.bel; have W3R := s3.out.row; rw [← hnl.out] at W3R; have mk4 : ∀ (a4 : Option Addr) n4 c4 (w4 : World), w4.ownsRow w.heap.size 52 3 (.slice a4 n4 c4) (n + 1) (rowI all ++ [.string ch.k, .string ch.v, .bool true]) → (w3.alloc (.cells #[.string ch.k, .string ch.v, .bool true] 52)).grownBy w4 (Value.slice a1 n q).ownBlock → Hid (LR w c Db (all ++ [ch]) (i + 1) w4 a4 n4 c4) := fun a4 n4 c4 w4 ho hg => mkx.out _ _ _ _ _ s3.out ho hg))
                  go_roundw
                  case rel => exact ⟨i + 1, by omega, by omega, by simp, _, _, _, _, rfl, s6⟩
                  case measure => simp; omega
                · have hc19 : Hid (∀ W g qq, Hid (LastS w N c Db mb S K (all.map nrm) all i W (.slice a1 n q)) → W.cell? ⟨g, 0, none⟩ = some (.string ch.k) → Calls Tryz.prog 19 #[.pointer (some ⟨c, 0, none⟩), .slice (some ⟨g, 0, none⟩) 1 qq] W fun e w' => e = .returned (.int .i64 E) ∧ Hid (LastI w c Db (all.map nrm) all (i + 1) w' (.slice a1 n q))) := fun W g qq h hc => hE2 hE W _ g qq h.out hc
                  clear hE1 hE2
                  have hE3 : (E == 0) = false := beq_eq_false_iff_ne.2 hE
                  have hSd : Hid (∀ ob : Obj, LastS w N c Db mb S K (all.map nrm) all i (wr.alloc ob) (.slice a1 n q)) := fun ob => hS.out.below ((Below.refl _ wr).alloc (Nat.le_refl _) ob)
                  go_wp2_with (first
                    | (go_at_call 21; refine (h21.out _ _ _ _ _ _ _ _ (by omega) S5).mono ?_; rintro e w6 ⟨rfl, s6⟩)
                    | (go_at_call 19; refine (hc19.out _ _ _ (hSd.out _) (new_cell wr ch.k)).mono ?_; rintro e w3 ⟨rfl, s3⟩; obtain ⟨m1, m2, m3⟩ := hcb.out w3 s3.out.bel; have S5 : Hid (LR w c Db all (i + 1) w3 a1 n q) := ⟨hnl.out, by omega, s3.out⟩; clear s3))
                  go_roundw
                  case rel => exact ⟨i + 1, by omega, by omega, by simp, _, _, _, _, rfl, s6⟩
                  case measure => simp; omega
              · have hm2 : (m == 0) = false := beq_eq_false_iff_ne.2 hm0
                by_cases hE : E = 0
                · subst hE
                  have hc19 : Hid (∀ W g qq, Hid (LastS w N c Db mb S K (all.map nrm) all i W (.slice a1 n q)) → W.cell? ⟨g, 0, none⟩ = some (.string ch.k) → Calls Tryz.prog 19 #[.pointer (some ⟨c, 0, none⟩), .slice (some ⟨g, 0, none⟩) 1 qq] W fun e w' => e = .returned (.int .i64 0) ∧ Hid (LastI w c Db (all.map nrm ++ [nrm ch]) all (i + 1) w' (.slice a1 n q))) := fun W g qq h hc => hE1 rfl W _ g qq h.out hc
                  clear hE1 hE2
                  have hSd : Hid (∀ ob : Obj, LastS w N c Db mb S K (all.map nrm) all i (wr.alloc ob) (.slice a1 n q)) := fun ob => hS.out.below ((Below.refl _ wr).alloc (Nat.le_refl _) ob)
                  go_wp2_with (first
                    | (at_builtin; go_loud (refine wpList_append_src rfl _ _ 48 rfl w.heap.size 52 i52 (.agg #[.string ⟨#[]⟩, .string ⟨#[]⟩, .bool false]) 3 40 Tryz.underlying48 hi52 hz0 hz1 hz2 rfl (by decide) _ _ _ (W3R.alloc _) rfl [.string ch.k, .string ch.v, .bool true] (some ⟨w3.heap.size, 0, none⟩) 1 1 rfl rfl (fun _ => ⟨_, rfl, new_three w3 ch.k ch.v true⟩) (by simp [Value.oneCell']) (by unfold maxLen; omega) (by omega) (by have := s3.out.bel.size; simp; omega) ?_; intro v4 w4 own4 grow4 loc4; clear loc4; obtain ⟨a4, c4, rfl⟩ := row_slice own4; have s4 := mk4 _ _ _ _ own4 grow4; clear own4 grow4))
                    | (go_at_call 19; refine (hc19.out _ _ _ (hSd.out _) (new_cell wr ch.k)).mono ?_; rintro e w3 ⟨rfl, s3⟩; obtain ⟨m1, m2, m3⟩ := hcb.out w3 s3.out.bel; have W3R := s3.out.row; rw [← hnl.out] at W3R; have mk4 : ∀ (a4 : Option Addr) n4 c4 (w4 : World), w4.ownsRow w.heap.size 52 3 (.slice a4 n4 c4) (n + 1) (rowI all ++ [.string ch.k, .string ch.v, .bool true]) → (w3.alloc (.cells #[.string ch.k, .string ch.v, .bool true] 52)).grownBy w4 (Value.slice a1 n q).ownBlock → Hid (LR w c Db (all ++ [ch]) (i + 1) w4 a4 n4 c4) := fun a4 n4 c4 w4 ho hg => mkx.out _ _ _ _ _ s3.out ho hg))
                  go_roundw
                  case rel => exact ⟨i + 1, by omega, by omega, by simp, _, _, _, _, rfl, s4⟩
                  case measure => simp; omega
                · have hc19 : Hid (∀ W g qq, Hid (LastS w N c Db mb S K (all.map nrm) all i W (.slice a1 n q)) → W.cell? ⟨g, 0, none⟩ = some (.string ch.k) → Calls Tryz.prog 19 #[.pointer (some ⟨c, 0, none⟩), .slice (some ⟨g, 0, none⟩) 1 qq] W fun e w' => e = .returned (.int .i64 E) ∧ Hid (LastI w c Db (all.map nrm) all (i + 1) w' (.slice a1 n q))) := fun W g qq h hc => hE2 hE W _ g qq h.out hc
                  clear hE1 hE2
                  have hE3 : (E == 0) = false := beq_eq_false_iff_ne.2 hE
                  have hSd : Hid (∀ ob : Obj, LastS w N c Db mb S K (all.map nrm) all i (wr.alloc ob) (.slice a1 n q)) := fun ob => hS.out.below ((Below.refl _ wr).alloc (Nat.le_refl _) ob)
                  go_wp2_with (first
                    | (go_at_call 19; refine (hc19.out _ _ _ (hSd.out _) (new_cell wr ch.k)).mono ?_; rintro e w3 ⟨rfl, s3⟩; obtain ⟨m1, m2, m3⟩ := hcb.out w3 s3.out.bel; have S5 : Hid (LR w c Db all (i + 1) w3 a1 n q) := ⟨hnl.out, by omega, s3.out⟩; clear s3))
                  go_roundw
                  case rel => exact ⟨i + 1, by omega, by omega, by simp, _, _, _, _, rfl, S5⟩
                  case measure => simp; omega
            · have hk3 : decide (0 < kk) = false := decide_eq_false (by omega)
              have hk4 : ¬ 0 < kk := by omega
              by_cases hE : E = 0
              · subst hE
                have hc19 : Hid (∀ W g qq, Hid (LastS w N c Db mb S K (all.map nrm) all i W (.slice a1 n q)) → W.cell? ⟨g, 0, none⟩ = some (.string ch.k) → Calls Tryz.prog 19 #[.pointer (some ⟨c, 0, none⟩), .slice (some ⟨g, 0, none⟩) 1 qq] W fun e w' => e = .returned (.int .i64 0) ∧ Hid (LastI w c Db (all.map nrm ++ [nrm ch]) all (i + 1) w' (.slice a1 n q))) := fun W g qq h hc => hE1 rfl W _ g qq h.out hc
                clear hE1 hE2
                have hSd : Hid (∀ ob : Obj, LastS w N c Db mb S K (all.map nrm) all i (wr.alloc ob) (.slice a1 n q)) := fun ob => hS.out.below ((Below.refl _ wr).alloc (Nat.le_refl _) ob)
                go_wp2_with (first
                  | (at_builtin; go_loud (refine wpList_append_src rfl _ _ 48 rfl w.heap.size 52 i52 (.agg #[.string ⟨#[]⟩, .string ⟨#[]⟩, .bool false]) 3 40 Tryz.underlying48 hi52 hz0 hz1 hz2 rfl (by decide) _ _ _ (W3R.alloc _) rfl [.string ch.k, .string ch.v, .bool true] (some ⟨w3.heap.size, 0, none⟩) 1 1 rfl rfl (fun _ => ⟨_, rfl, new_three w3 ch.k ch.v true⟩) (by simp [Value.oneCell']) (by unfold maxLen; omega) (by omega) (by have := s3.out.bel.size; simp; omega) ?_; intro v4 w4 own4 grow4 loc4; clear loc4; obtain ⟨a4, c4, rfl⟩ := row_slice own4; have s4 := mk4 _ _ _ _ own4 grow4; clear own4 grow4))
                  | (go_at_call 19; refine (hc19.out _ _ _ (hSd.out _) (new_cell wr ch.k)).mono ?_; rintro e w3 ⟨rfl, s3⟩; obtain ⟨m1, m2, m3⟩ := hcb.out w3 s3.out.bel; have W3R := s3.out.row; rw [← hnl.out] at W3R; have mk4 : ∀ (a4 : Option Addr) n4 c4 (w4 : World), w4.ownsRow w.heap.size 52 3 (.slice a4 n4 c4) (n + 1) (rowI all ++ [.string ch.k, .string ch.v, .bool true]) → (w3.alloc (.cells #[.string ch.k, .string ch.v, .bool true] 52)).grownBy w4 (Value.slice a1 n q).ownBlock → Hid (LR w c Db (all ++ [ch]) (i + 1) w4 a4 n4 c4) := fun a4 n4 c4 w4 ho hg => mkx.out _ _ _ _ _ s3.out ho hg))
                go_roundw
                case rel => exact ⟨i + 1, by omega, by omega, by simp, _, _, _, _, rfl, s4⟩
                case measure => simp; omega
              · have hc19 : Hid (∀ W g qq, Hid (LastS w N c Db mb S K (all.map nrm) all i W (.slice a1 n q)) → W.cell? ⟨g, 0, none⟩ = some (.string ch.k) → Calls Tryz.prog 19 #[.pointer (some ⟨c, 0, none⟩), .slice (some ⟨g, 0, none⟩) 1 qq] W fun e w' => e = .returned (.int .i64 E) ∧ Hid (LastI w c Db (all.map nrm) all (i + 1) w' (.slice a1 n q))) := fun W g qq h hc => hE2 hE W _ g qq h.out hc
                clear hE1 hE2
                have hE3 : (E == 0) = false := beq_eq_false_iff_ne.2 hE
                have hSd : Hid (∀ ob : Obj, LastS w N c Db mb S K (all.map nrm) all i (wr.alloc ob) (.slice a1 n q)) := fun ob => hS.out.below ((Below.refl _ wr).alloc (Nat.le_refl _) ob)
                go_wp2_with (first
                  | (go_at_call 19; refine (hc19.out _ _ _ (hSd.out _) (new_cell wr ch.k)).mono ?_; rintro e w3 ⟨rfl, s3⟩; obtain ⟨m1, m2, m3⟩ := hcb.out w3 s3.out.bel; have S5 : Hid (LR w c Db all (i + 1) w3 a1 n q) := ⟨hnl.out, by omega, s3.out⟩; clear s3))
                go_roundw
                case rel => exact ⟨i + 1, by omega, by omega, by simp, _, _, _, _, rfl, S5⟩
                case measure => simp; omega
          · obtain ⟨E, hE1, hE2⟩ := last_put hS (by omega) ch hd
            have hS : Hid _ := hS
            clear hch
            rcases Int.lt_or_le 0 kk with hkp | hkp
            · obtain ⟨m, hm⟩ : ∃ m, Int.tmod (i : Int) kk = m := ⟨_, rfl⟩
              have hm1 : 0 ≤ m ∧ m < 20 := by rw [← hm]; exact ⟨Int.tmod_nonneg _ (by omega), by have := Int.tmod_lt_of_pos (i : Int) hkp; omega⟩
              have hmw : IntKind.i64.wrap m = m := by simp [IntKind.wrap, IntKind.bits, IntKind.signed]; omega
              have hk1 : (kk == 0) = false := beq_eq_false_iff_ne.2 (by omega)
              have hk2 : ¬ kk = 0 := by omega
              have hk3 : decide (0 < kk) = true := decide_eq_true hkp
              by_cases hm0 : m = 0
              · rw [hm0] at hm hmw
                by_cases hE : E = 0
                · subst hE
                  have hc18 : Hid (∀ W, Hid (LastS w N c Db mb S K (all.map nrm) all i W (.slice a1 n q)) → Calls Tryz.prog 18 #[.pointer (some ⟨c, 0, none⟩), .string ch.k, .string ch.v] W fun e w' => e = .returned (.int .i64 0) ∧ Hid (LastI w c Db (all.map nrm ++ [nrm ch]) all (i + 1) w' (.slice a1 n q))) := fun W h => hE1 rfl W _ h.out
                  clear hE1 hE2
                  have hSd : Hid (LastS w N c Db mb S K (all.map nrm) all i wr.drew (.slice a1 n q)) := hS.out.drew
                  go_wp2_with fail
                  go_region_held3 (fun w' => w'.cell? ⟨b, o + i * 3, none⟩ = some (.string ch.k) ∧ w'.cell? ⟨b, o + i * 3 + 1, none⟩ = some (.string ch.v)) (go_keep) (first | (go_at_call 18; refine (hc18.out _ hSd).mono ?_; rintro e w3 ⟨rfl, s3⟩; obtain ⟨m1, m2, m3⟩ := hcb.out w3 s3.out.bel; have W3R := s3.out.row; rw [← hnl.out] at W3R; have mk4 : ∀ (a4 : Option Addr) n4 c4 (w4 : World), w4.ownsRow w.heap.size 52 3 (.slice a4 n4 c4) (n + 1) (rowI all ++ [.string ch.k, .string ch.v, .bool false]) → (w3.alloc (.cells #[.string ch.k, .string ch.v, .bool false] 52)).grownBy w4 (Value.slice a1 n q).ownBlock → Hid (LR w c Db (all ++ [ch]) (i + 1) w4 a4 n4 c4) := fun a4 n4 c4 w4 ho hg => mkx.out _ _ _ _ _ s3.out ho hg))
                  go_wp2_with (first
                    | (go_at_call 21; refine (h21.out _ _ _ _ _ _ _ _ (by omega) s4).mono ?_; rintro e w6 ⟨rfl, s6⟩)
                    | (at_builtin; go_loud (refine wpList_append_src rfl _ _ 48 rfl w.heap.size 52 i52 (.agg #[.string ⟨#[]⟩, .string ⟨#[]⟩, .bool false]) 3 40 Tryz.underlying48 hi52 hz0 hz1 hz2 rfl (by decide) _ _ _ (W3R.alloc _) rfl [.string ch.k, .string ch.v, .bool false] (some ⟨w3.heap.size, 0, none⟩) 1 1 rfl rfl (fun _ => ⟨_, rfl, new_three w3 ch.k ch.v false⟩) (by simp [Value.oneCell']) (by unfold maxLen; omega) (by omega) (by have := s3.out.bel.size; simp; omega) ?_; intro v4 w4 own4 grow4 loc4; clear loc4; obtain ⟨a4, c4, rfl⟩ := row_slice own4; have s4 := mk4 _ _ _ _ own4 grow4; clear own4 grow4)))
                  go_roundw
                  case rel => exact ⟨i + 1, by omega, by omega, by simp, _, _, _, _, rfl, s6⟩
                  case measure => simp; omega
                · have hc18 : Hid (∀ W, Hid (LastS w N c Db mb S K (all.map nrm) all i W (.slice a1 n q)) → Calls Tryz.prog 18 #[.pointer (some ⟨c, 0, none⟩), .string ch.k, .string ch.v] W fun e w' => e = .returned (.int .i64 E) ∧ Hid (LastI w c Db (all.map nrm) all (i + 1) w' (.slice a1 n q))) := fun W h => hE2 hE W _ h.out
                  clear hE1 hE2
                  have hE3 : (E == 0) = false := beq_eq_false_iff_ne.2 hE
                  have hSd : Hid (LastS w N c Db mb S K (all.map nrm) all i wr.drew (.slice a1 n q)) := hS.out.drew
                  go_wp2_with fail
                  go_region_held3 (fun w' => w'.cell? ⟨b, o + i * 3, none⟩ = some (.string ch.k) ∧ w'.cell? ⟨b, o + i * 3 + 1, none⟩ = some (.string ch.v)) (go_keep) (first | (go_at_call 18; refine (hc18.out _ hSd).mono ?_; rintro e w3 ⟨rfl, s3⟩; obtain ⟨m1, m2, m3⟩ := hcb.out w3 s3.out.bel; have S5 : Hid (LR w c Db all (i + 1) w3 a1 n q) := ⟨hnl.out, by omega, s3.out⟩; clear s3))
                  go_wp2_with (first
                    | (go_at_call 21; refine (h21.out _ _ _ _ _ _ _ _ (by omega) S5).mono ?_; rintro e w6 ⟨rfl, s6⟩))
                  go_roundw
                  case rel => exact ⟨i + 1, by omega, by omega, by simp, _, _, _, _, rfl, s6⟩
                  case measure => simp; omega
              · have hm2 : (m == 0) = false := beq_eq_false_iff_ne.2 hm0
                by_cases hE : E = 0
                · subst hE
                  have hc18 : Hid (∀ W, Hid (LastS w N c Db mb S K (all.map nrm) all i W (.slice a1 n q)) → Calls Tryz.prog 18 #[.pointer (some ⟨c, 0, none⟩), .string ch.k, .string ch.v] W fun e w' => e = .returned (.int .i64 0) ∧ Hid (LastI w c Db (all.map nrm ++ [nrm ch]) all (i + 1) w' (.slice a1 n q))) := fun W h => hE1 rfl W _ h.out
                  clear hE1 hE2
                  have hSd : Hid (LastS w N c Db mb S K (all.map nrm) all i wr.drew (.slice a1 n q)) := hS.out.drew
                  go_wp2_with fail
                  go_region_held3 (fun w' => w'.cell? ⟨b, o + i * 3, none⟩ = some (.string ch.k) ∧ w'.cell? ⟨b, o + i * 3 + 1, none⟩ = some (.string ch.v)) (go_keep) (first | (go_at_call 18; refine (hc18.out _ hSd).mono ?_; rintro e w3 ⟨rfl, s3⟩; obtain ⟨m1, m2, m3⟩ := hcb.out w3 s3.out.bel; have W3R := s3.out.row; rw [← hnl.out] at W3R; have mk4 : ∀ (a4 : Option Addr) n4 c4 (w4 : World), w4.ownsRow w.heap.size 52 3 (.slice a4 n4 c4) (n + 1) (rowI all ++ [.string ch.k, .string ch.v, .bool false]) → (w3.alloc (.cells #[.string ch.k, .string ch.v, .bool false] 52)).grownBy w4 (Value.slice a1 n q).ownBlock → Hid (LR w c Db (all ++ [ch]) (i + 1) w4 a4 n4 c4) := fun a4 n4 c4 w4 ho hg => mkx.out _ _ _ _ _ s3.out ho hg))
                  go_wp2_with (first
                    | (at_builtin; go_loud (refine wpList_append_src rfl _ _ 48 rfl w.heap.size 52 i52 (.agg #[.string ⟨#[]⟩, .string ⟨#[]⟩, .bool false]) 3 40 Tryz.underlying48 hi52 hz0 hz1 hz2 rfl (by decide) _ _ _ (W3R.alloc _) rfl [.string ch.k, .string ch.v, .bool false] (some ⟨w3.heap.size, 0, none⟩) 1 1 rfl rfl (fun _ => ⟨_, rfl, new_three w3 ch.k ch.v false⟩) (by simp [Value.oneCell']) (by unfold maxLen; omega) (by omega) (by have := s3.out.bel.size; simp; omega) ?_; intro v4 w4 own4 grow4 loc4; clear loc4; obtain ⟨a4, c4, rfl⟩ := row_slice own4; have s4 := mk4 _ _ _ _ own4 grow4; clear own4 grow4)))
                  go_roundw
                  case rel => exact ⟨i + 1, by omega, by omega, by simp, _, _, _, _, rfl, s4⟩
                  case measure => simp; omega
                · have hc18 : Hid (∀ W, Hid (LastS w N c Db mb S K (all.map nrm) all i W (.slice a1 n q)) → Calls Tryz.prog 18 #[.pointer (some ⟨c, 0, none⟩), .string ch.k, .string ch.v] W fun e w' => e = .returned (.int .i64 E) ∧ Hid (LastI w c Db (all.map nrm) all (i + 1) w' (.slice a1 n q))) := fun W h => hE2 hE W _ h.out
                  clear hE1 hE2
                  have hE3 : (E == 0) = false := beq_eq_false_iff_ne.2 hE
                  have hSd : Hid (LastS w N c Db mb S K (all.map nrm) all i wr.drew (.slice a1 n q)) := hS.out.drew
                  go_wp2_with fail
                  go_region_held3 (fun w' => w'.cell? ⟨b, o + i * 3, none⟩ = some (.string ch.k) ∧ w'.cell? ⟨b, o + i * 3 + 1, none⟩ = some (.string ch.v)) (go_keep) (first | (go_at_call 18; refine (hc18.out _ hSd).mono ?_; rintro e w3 ⟨rfl, s3⟩; obtain ⟨m1, m2, m3⟩ := hcb.out w3 s3.out.bel; have S5 : Hid (LR w c Db all (i + 1) w3 a1 n q) := ⟨hnl.out, by omega, s3.out⟩; clear s3))
                  go_wp2
                  go_roundw
                  case rel => exact ⟨i + 1, by omega, by omega, by simp, _, _, _, _, rfl, S5⟩
                  case measure => simp; omega
            · have hk3 : decide (0 < kk) = false := decide_eq_false (by omega)
              have hk4 : ¬ 0 < kk := by omega
              by_cases hE : E = 0
              · subst hE
                have hc18 : Hid (∀ W, Hid (LastS w N c Db mb S K (all.map nrm) all i W (.slice a1 n q)) → Calls Tryz.prog 18 #[.pointer (some ⟨c, 0, none⟩), .string ch.k, .string ch.v] W fun e w' => e = .returned (.int .i64 0) ∧ Hid (LastI w c Db (all.map nrm ++ [nrm ch]) all (i + 1) w' (.slice a1 n q))) := fun W h => hE1 rfl W _ h.out
                clear hE1 hE2
                have hSd : Hid (LastS w N c Db mb S K (all.map nrm) all i wr.drew (.slice a1 n q)) := hS.out.drew
                go_wp2_with fail
                go_region_held3 (fun w' => w'.cell? ⟨b, o + i * 3, none⟩ = some (.string ch.k) ∧ w'.cell? ⟨b, o + i * 3 + 1, none⟩ = some (.string ch.v)) (go_keep) (first | (go_at_call 18; refine (hc18.out _ hSd).mono ?_; rintro e w3 ⟨rfl, s3⟩; obtain ⟨m1, m2, m3⟩ := hcb.out w3 s3.out.bel; have W3R := s3.out.row; rw [← hnl.out] at W3R; have mk4 : ∀ (a4 : Option Addr) n4 c4 (w4 : World), w4.ownsRow w.heap.size 52 3 (.slice a4 n4 c4) (n + 1) (rowI all ++ [.string ch.k, .string ch.v, .bool false]) → (w3.alloc (.cells #[.string ch.k, .string ch.v, .bool false] 52)).grownBy w4 (Value.slice a1 n q).ownBlock → Hid (LR w c Db (all ++ [ch]) (i + 1) w4 a4 n4 c4) := fun a4 n4 c4 w4 ho hg => mkx.out _ _ _ _ _ s3.out ho hg))
                go_wp2_with (first
                  | (at_builtin; go_loud (refine wpList_append_src rfl _ _ 48 rfl w.heap.size 52 i52 (.agg #[.string ⟨#[]⟩, .string ⟨#[]⟩, .bool false]) 3 40 Tryz.underlying48 hi52 hz0 hz1 hz2 rfl (by decide) _ _ _ (W3R.alloc _) rfl [.string ch.k, .string ch.v, .bool false] (some ⟨w3.heap.size, 0, none⟩) 1 1 rfl rfl (fun _ => ⟨_, rfl, new_three w3 ch.k ch.v false⟩) (by simp [Value.oneCell']) (by unfold maxLen; omega) (by omega) (by have := s3.out.bel.size; simp; omega) ?_; intro v4 w4 own4 grow4 loc4; clear loc4; obtain ⟨a4, c4, rfl⟩ := row_slice own4; have s4 := mk4 _ _ _ _ own4 grow4; clear own4 grow4)))
                go_roundw
                case rel => exact ⟨i + 1, by omega, by omega, by simp, _, _, _, _, rfl, s4⟩
                case measure => simp; omega
              · have hc18 : Hid (∀ W, Hid (LastS w N c Db mb S K (all.map nrm) all i W (.slice a1 n q)) → Calls Tryz.prog 18 #[.pointer (some ⟨c, 0, none⟩), .string ch.k, .string ch.v] W fun e w' => e = .returned (.int .i64 E) ∧ Hid (LastI w c Db (all.map nrm) all (i + 1) w' (.slice a1 n q))) := fun W h => hE2 hE W _ h.out
                clear hE1 hE2
                have hE3 : (E == 0) = false := beq_eq_false_iff_ne.2 hE
                have hSd : Hid (LastS w N c Db mb S K (all.map nrm) all i wr.drew (.slice a1 n q)) := hS.out.drew
                go_wp2_with fail
                go_region_held3 (fun w' => w'.cell? ⟨b, o + i * 3, none⟩ = some (.string ch.k) ∧ w'.cell? ⟨b, o + i * 3 + 1, none⟩ = some (.string ch.v)) (go_keep) (first | (go_at_call 18; refine (hc18.out _ hSd).mono ?_; rintro e w3 ⟨rfl, s3⟩; obtain ⟨m1, m2, m3⟩ := hcb.out w3 s3.out.bel; have S5 : Hid (LR w c Db all (i + 1) w3 a1 n q) := ⟨hnl.out, by omega, s3.out⟩; clear s3))
                go_wp2
                go_roundw
                case rel => exact ⟨i + 1, by omega, by omega, by simp, _, _, _, _, rfl, S5⟩
                case measure => simp; omega
        · have g1 : (i : Int) < (LN : Int) := by omega
          have g3 : ¬ (i : Int) < 80 := by omega
          have g5 : decide ((i : Int) < 80) = false := decide_eq_false g3
          have hi80 : Hid (i ≤ 80) := hi
          have h15 : Hid (∀ W k, k.size ≤ maxLen → Hid (LR w c Db all i W a1 n q) → Calls Tryz.prog 15 #[.pointer (some ⟨c, 0, none⟩), .string k] W fun e w' => e = .returned (.tuple #[.string (getV (kvOf all) k), .int .i64 (getE (kvOf all) k)]) ∧ Hid (LR w c Db all i w' a1 n q)) := fun W k hk h => (last_get h.out.2.2 rfl k hk).mono fun e w' ⟨e1, e2⟩ => ⟨e1, h.out.1, h.out.2.1, e2⟩
          have h37 : Hid (∀ W k, Hid (LR w c Db all i W a1 n q) → Calls Tryz.prog 37 #[.slice a1 n q, .string k] W fun e w' => e = .returned (.tuple #[.string (getV (kvOf all) k), .int .i64 (getE (kvOf all) k)]) ∧ Hid (LR w c Db all i w' a1 n q)) := fun W k h => (last_ref h.out.2.2 k (by have := h.out.1; have := h.out.2.1; omega)).mono fun e w' ⟨e1, e2⟩ => ⟨e1, h.out.1, h.out.2.1, e2⟩
          have h23 : Hid (∀ W, Hid (LR w c Db all i W a1 n q) → Calls Tryz.prog 23 #[.pointer (some ⟨c, 0, none⟩)] W fun e w' => ∃ a2 n2 q2, e = .returned (.slice a2 n2 q2) ∧ Hid (LR w c Db all i w' a1 n q ∧ w'.ownsRow w.heap.size 103 2 (.slice a2 n2 q2) (kvL (kvOf all)).length (cellsP (kvL (kvOf all))))) := fun W h => (last_fold h.out.2.2 rfl).mono fun e w' ⟨a2, n2, q2, e1, e2, e3⟩ => ⟨a2, n2, q2, e1, ⟨h.out.1, h.out.2.1, e2⟩, e3⟩
          have h33 : Hid (∀ W u, Hid (LR w c Db all i W a1 n q ∧ W.ownsRow w.heap.size 103 2 u (kvL (kvOf all)).length (cellsP (kvL (kvOf all)))) → Calls Tryz.prog 33 #[.slice a1 n q] W fun e w' => ∃ a2 n2 q2, e = .returned (.slice a2 n2 q2) ∧ Hid (w'.ownsRow w.heap.size 103 2 (.slice a2 n2 q2) (kvL (kvOf all)).length (cellsP (kvL (kvOf all))) ∧ w'.ownsRow w.heap.size 103 2 u (kvL (kvOf all)).length (cellsP (kvL (kvOf all))) ∧ Below w.heap.size w w')) := fun W u h => last_rfold h.out.1.2.2 h.out.2 (by have := h.out.1.1; have := h.out.1.2.1; omega)
          have hal : Hid (all.length ≤ 1000) := by show _ ≤ _; have := hI.out.1; have := hI.out.2.1; omega
          have h32 : Hid (∀ W u x, Hid (W.ownsRow w.heap.size 103 2 x (kvL (kvOf all)).length (cellsP (kvL (kvOf all))) ∧ W.ownsRow w.heap.size 103 2 u (kvL (kvOf all)).length (cellsP (kvL (kvOf all))) ∧ Below w.heap.size w W) → Calls Tryz.prog 32 #[u, x] W fun e w' => e = .returned (.bool true) ∧ Hid (Below w.heap.size w w')) := fun W u x h => last_same h.out hal.out
          have hcell : Hid (∀ W j ch, all[j]? = some ch → Hid (LR w c Db all i W a1 n q) → ∃ b o, a1 = some ⟨b, o, none⟩ ∧ W.cell? ⟨b, o + j * 3, none⟩ = some (.string ch.k)) := fun W j ch hj h => lr_cell h.out hj
          have hn : Hid (n = all.length) := hI.out.1
          have hoks : Hid (∀ x ∈ all, x.k.size ≤ maxLen) := lr_keys hI.out
          have hn63 : n ≤ 1000 := by have := hn.out; have := hal.out; omega
          go_wp2
          go_loopw [13] (fun p wr => ∃ j : Nat, j ≤ n ∧ p = .int .i64 (j : Int) ∧ Hid (LR w c Db all i wr a1 n q)) (fun p _ => n - (intOf p).toNat)
          case atStart => exact ⟨0, Nat.zero_le _, rfl, hI⟩
          case round =>
            obtain ⟨j, hj, rfl, hJ⟩ := hrel
            clear hI
            rcases Nat.lt_or_ge j n with hjl | hjg
            · have hn' := hn.out
              obtain ⟨ch, hch⟩ : ∃ ch, all[j]? = some ch := ⟨_, List.getElem?_eq_getElem (by omega)⟩
              have hsz : ch.k.size ≤ maxLen := hoks.out ch (List.mem_of_getElem? hch)
              obtain ⟨b, o, rfl, x0⟩ := hcell.out _ _ _ hch hJ
              obtain ⟨k, hk⟩ : ∃ k, ch.k = k := ⟨_, rfl⟩
              rw [hk] at hsz x0
              have hcl : Hid (∀ W, Hid (LR w c Db all i W (some ⟨b, o, none⟩) n q) → W.cell? ⟨b, o + j * 3, none⟩ = some (.string k)) := fun W h => by
                obtain ⟨b', o', e, e'⟩ := hcell.out _ _ _ hch h
                cases e
                rw [← hk]; exact e'
              have h15 : Hid (∀ W, Hid (LR w c Db all i W (some ⟨b, o, none⟩) n q) → Calls Tryz.prog 15 #[.pointer (some ⟨c, 0, none⟩), .string k] W fun e w' => e = .returned (.tuple #[.string (getV (kvOf all) k), .int .i64 (getE (kvOf all) k)]) ∧ Hid (LR w c Db all i w' (some ⟨b, o, none⟩) n q)) := fun W h => h15.out W k hsz h
              have h37 : Hid (∀ W, Hid (LR w c Db all i W (some ⟨b, o, none⟩) n q) → Calls Tryz.prog 37 #[.slice (some ⟨b, o, none⟩) n q, .string k] W fun e w' => e = .returned (.tuple #[.string (getV (kvOf all) k), .int .i64 (getE (kvOf all) k)]) ∧ Hid (LR w c Db all i w' (some ⟨b, o, none⟩) n q)) := fun W h => h37.out W k h
              obtain ⟨V, hV⟩ : ∃ V, getV (kvOf all) k = V := ⟨_, rfl⟩
              obtain ⟨E, hE⟩ : ∃ E, getE (kvOf all) k = E := ⟨_, rfl⟩
              rw [hV, hE] at h15 h37
              have g1 : (j : Int) < (n : Int) := by omega
              have g2 : (0 : Int) ≤ (j : Int) := by omega
              have g4 : IntKind.i64.wrap ((j : Int) + 1) = (j : Int) + 1 := by simp [IntKind.wrap, IntKind.bits, IntKind.signed]; omega
              clear hV hE hch hsz hcell h23 h33 h32 hk hn'
              go_wp2_with (first
                | (go_at_call 37; refine (h37.out _ t1).mono ?_; rintro e wt ⟨rfl, t2⟩)
                | (go_at_call 15; refine (h15.out _ hJ).mono ?_; rintro e wg ⟨rfl, t1⟩; have x1 := hcl.out _ t1))
              go_roundw
              case rel => exact ⟨j + 1, by omega, by simp, t2⟩
              case measure => simp; omega
            · obtain rfl : j = n := by omega
              clear h15 h37 hcell
              go_wp2_with (first
                | (go_at_call 32; refine (h32.out _ _ _ t3).mono ?_; rintro e w7 ⟨rfl, t4⟩)
                | (go_at_call 33; refine (h33.out _ _ t2).mono ?_; rintro e w6 ⟨a3, n3, q3, rfl, t3⟩)
                | (go_at_call 23; refine (h23.out _ hJ).mono ?_; rintro e w5 ⟨a2, n2, q2, rfl, t2⟩))
              go_ret
              exact ⟨rfl, t4.out⟩
      · obtain rfl : i = LN := by omega
        have h15 : Hid (∀ W k, k.size ≤ maxLen → Hid (LR w c Db all i W a1 n q) → Calls Tryz.prog 15 #[.pointer (some ⟨c, 0, none⟩), .string k] W fun e w' => e = .returned (.tuple #[.string (getV (kvOf all) k), .int .i64 (getE (kvOf all) k)]) ∧ Hid (LR w c Db all i w' a1 n q)) := fun W k hk h => (last_get h.out.2.2 rfl k hk).mono fun e w' ⟨e1, e2⟩ => ⟨e1, h.out.1, h.out.2.1, e2⟩
        have h37 : Hid (∀ W k, Hid (LR w c Db all i W a1 n q) → Calls Tryz.prog 37 #[.slice a1 n q, .string k] W fun e w' => e = .returned (.tuple #[.string (getV (kvOf all) k), .int .i64 (getE (kvOf all) k)]) ∧ Hid (LR w c Db all i w' a1 n q)) := fun W k h => (last_ref h.out.2.2 k (by have := h.out.1; have := h.out.2.1; omega)).mono fun e w' ⟨e1, e2⟩ => ⟨e1, h.out.1, h.out.2.1, e2⟩
        have h23 : Hid (∀ W, Hid (LR w c Db all i W a1 n q) → Calls Tryz.prog 23 #[.pointer (some ⟨c, 0, none⟩)] W fun e w' => ∃ a2 n2 q2, e = .returned (.slice a2 n2 q2) ∧ Hid (LR w c Db all i w' a1 n q ∧ w'.ownsRow w.heap.size 103 2 (.slice a2 n2 q2) (kvL (kvOf all)).length (cellsP (kvL (kvOf all))))) := fun W h => (last_fold h.out.2.2 rfl).mono fun e w' ⟨a2, n2, q2, e1, e2, e3⟩ => ⟨a2, n2, q2, e1, ⟨h.out.1, h.out.2.1, e2⟩, e3⟩
        have h33 : Hid (∀ W u, Hid (LR w c Db all i W a1 n q ∧ W.ownsRow w.heap.size 103 2 u (kvL (kvOf all)).length (cellsP (kvL (kvOf all)))) → Calls Tryz.prog 33 #[.slice a1 n q] W fun e w' => ∃ a2 n2 q2, e = .returned (.slice a2 n2 q2) ∧ Hid (w'.ownsRow w.heap.size 103 2 (.slice a2 n2 q2) (kvL (kvOf all)).length (cellsP (kvL (kvOf all))) ∧ w'.ownsRow w.heap.size 103 2 u (kvL (kvOf all)).length (cellsP (kvL (kvOf all))) ∧ Below w.heap.size w w')) := fun W u h => last_rfold h.out.1.2.2 h.out.2 (by have := h.out.1.1; have := h.out.1.2.1; omega)
        have hal : Hid (all.length ≤ 1000) := by show _ ≤ _; have := hI.out.1; have := hI.out.2.1; omega
        have h32 : Hid (∀ W u x, Hid (W.ownsRow w.heap.size 103 2 x (kvL (kvOf all)).length (cellsP (kvL (kvOf all))) ∧ W.ownsRow w.heap.size 103 2 u (kvL (kvOf all)).length (cellsP (kvL (kvOf all))) ∧ Below w.heap.size w W) → Calls Tryz.prog 32 #[u, x] W fun e w' => e = .returned (.bool true) ∧ Hid (Below w.heap.size w w')) := fun W u x h => last_same h.out hal.out
        have hcell : Hid (∀ W j ch, all[j]? = some ch → Hid (LR w c Db all i W a1 n q) → ∃ b o, a1 = some ⟨b, o, none⟩ ∧ W.cell? ⟨b, o + j * 3, none⟩ = some (.string ch.k)) := fun W j ch hj h => lr_cell h.out hj
        have hn : Hid (n = all.length) := hI.out.1
        have hoks : Hid (∀ x ∈ all, x.k.size ≤ maxLen) := lr_keys hI.out
        have hn63 : n ≤ 1000 := by have := hn.out; have := hal.out; omega
        go_wp2
        go_loopw [13] (fun p wr => ∃ j : Nat, j ≤ n ∧ p = .int .i64 (j : Int) ∧ Hid (LR w c Db all i wr a1 n q)) (fun p _ => n - (intOf p).toNat)
        case atStart => exact ⟨0, Nat.zero_le _, rfl, hI⟩
        case round =>
          obtain ⟨j, hj, rfl, hJ⟩ := hrel
          clear hI
          rcases Nat.lt_or_ge j n with hjl | hjg
          · have hn' := hn.out
            obtain ⟨ch, hch⟩ : ∃ ch, all[j]? = some ch := ⟨_, List.getElem?_eq_getElem (by omega)⟩
            have hsz : ch.k.size ≤ maxLen := hoks.out ch (List.mem_of_getElem? hch)
            obtain ⟨b, o, rfl, x0⟩ := hcell.out _ _ _ hch hJ
            obtain ⟨k, hk⟩ : ∃ k, ch.k = k := ⟨_, rfl⟩
            rw [hk] at hsz x0
            have hcl : Hid (∀ W, Hid (LR w c Db all i W (some ⟨b, o, none⟩) n q) → W.cell? ⟨b, o + j * 3, none⟩ = some (.string k)) := fun W h => by
              obtain ⟨b', o', e, e'⟩ := hcell.out _ _ _ hch h
              cases e
              rw [← hk]; exact e'
            have h15 : Hid (∀ W, Hid (LR w c Db all i W (some ⟨b, o, none⟩) n q) → Calls Tryz.prog 15 #[.pointer (some ⟨c, 0, none⟩), .string k] W fun e w' => e = .returned (.tuple #[.string (getV (kvOf all) k), .int .i64 (getE (kvOf all) k)]) ∧ Hid (LR w c Db all i w' (some ⟨b, o, none⟩) n q)) := fun W h => h15.out W k hsz h
            have h37 : Hid (∀ W, Hid (LR w c Db all i W (some ⟨b, o, none⟩) n q) → Calls Tryz.prog 37 #[.slice (some ⟨b, o, none⟩) n q, .string k] W fun e w' => e = .returned (.tuple #[.string (getV (kvOf all) k), .int .i64 (getE (kvOf all) k)]) ∧ Hid (LR w c Db all i w' (some ⟨b, o, none⟩) n q)) := fun W h => h37.out W k h
            obtain ⟨V, hV⟩ : ∃ V, getV (kvOf all) k = V := ⟨_, rfl⟩
            obtain ⟨E, hE⟩ : ∃ E, getE (kvOf all) k = E := ⟨_, rfl⟩
            rw [hV, hE] at h15 h37
            have g1 : (j : Int) < (n : Int) := by omega
            have g2 : (0 : Int) ≤ (j : Int) := by omega
            have g4 : IntKind.i64.wrap ((j : Int) + 1) = (j : Int) + 1 := by simp [IntKind.wrap, IntKind.bits, IntKind.signed]; omega
            clear hV hE hch hsz hcell h23 h33 h32 hk hn'
            go_wp2_with (first
              | (go_at_call 37; refine (h37.out _ t1).mono ?_; rintro e wt ⟨rfl, t2⟩)
              | (go_at_call 15; refine (h15.out _ hJ).mono ?_; rintro e wg ⟨rfl, t1⟩; have x1 := hcl.out _ t1))
            go_roundw
            case rel => exact ⟨j + 1, by omega, by simp, t2⟩
            case measure => simp; omega
          · obtain rfl : j = n := by omega
            clear h15 h37 hcell
            go_wp2_with (first
              | (go_at_call 32; refine (h32.out _ _ _ t3).mono ?_; rintro e w7 ⟨rfl, t4⟩)
              | (go_at_call 33; refine (h33.out _ _ t2).mono ?_; rintro e w6 ⟨a3, n3, q3, rfl, t3⟩)
              | (go_at_call 23; refine (h23.out _ hJ).mono ?_; rintro e w5 ⟨a2, n2, q2, rfl, t2⟩))
            go_ret
            exact ⟨rfl, t4.out⟩
end Go.Proofs.YtfmmholkeadejaaGreatDoor
