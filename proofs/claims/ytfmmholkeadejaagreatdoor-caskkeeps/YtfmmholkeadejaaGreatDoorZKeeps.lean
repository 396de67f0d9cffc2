/- CaskKeeps (4): the walk. -/
import Derived.Deep.RegionHeld3
import Derived.Test.YtfmmholkeadejaaGreatDoorZCkKeepsM
namespace Go.Proofs.YtfmmholkeadejaaGreatDoor
open Go.RowKit

set_option maxHeartbeats 16000000 in
set_option maxRecDepth 100000 in
theorem caskKeeps_walk (l : List Ko) (hok : ∀ o ∈ l, o.Ok) (a : Option Addr) (cap : Nat) (hlen : l.length ≤ 9223372036854775807) (w : World) (hT : Tab w.heap.size w) (hl : InK w a l) :
    Calls Tryz.prog 4 #[.slice a l.length cap] w fun e w' => e = .returned (.bool true) ∧ Below w.heap.size w w' := by
  have hA : Hid (Calls Tryz.prog 17 #[] w fun e w' => e = .returned (.bool true) ∧ Hid (Below w.heap.size w w')) := awake_any w hT
  have h29 : Hid (∀ W, Hid (Below w.heap.size w W) → Calls Tryz.prog 29 #[.int .i64 4194304] W fun e w' => e = .returned (.pointer (some ⟨W.heap.size, 0, none⟩)) ∧ Hid (DCur w w' (lo0 w) W.heap.size (newS 4194304))) := fun W hB => full_new w W hT hB.out 4194304
  have h16 : Hid (∀ W d, Hid (DCur w W (lo0 w) d (newS 4194304)) → Calls Tryz.prog 16 #[.pointer (some ⟨d, 0, none⟩), .string v1B] W fun e w' => ∃ c, e = .returned (.tuple #[.pointer (some ⟨c, 0, none⟩), .int .i64 0]) ∧ Hid (KR w c d [] 0 0 w' none 0 0)) := fun W d h => (keeps_start h.out).mono fun e w' ⟨c, e1, e2⟩ => ⟨c, e1, rfl, Nat.le_refl _, Nat.le_refl _, Nat.le_refl _, e2⟩
  have hl : Hid (InK w a l) := hl
  have hok : Hid (∀ o ∈ l, o.Ok) := hok
  obtain ⟨i52, hi52, hz0, hz1, hz2⟩ := info_parts info52k
  obtain ⟨LN, hLN⟩ : ∃ LN, l.length = LN := ⟨_, rfl⟩
  have hLN : Hid (l.length = LN) := hLN
  rw [hLN.out] at hlen ⊢
  clear hT
  go_enter Tryz.func4, Tryz.ntmps4
  go_wp2_with (first
    | (go_at_call 16; refine (h16.out _ _ sn).mono ?_; rintro e w2 ⟨c, rfl, s0⟩)
    | (go_at_call 29; refine (h29.out _ sA).mono ?_; rintro e wn ⟨rfl, sn⟩)
    | (go_at_call 17; refine hA.out.mono ?_; rintro e wA ⟨rfl, sA⟩))
  obtain ⟨Db, hDb⟩ : ∃ Db, wA.heap.size = Db := ⟨_, rfl⟩
  rw [hDb] at s0 ⊢
  clear hA h29 h16 sn hDb sA
  go_loopw [5, 7, 8, 9] (fun cv v f p wr => ∃ i : Nat, i ≤ 60 ∧ i ≤ LN ∧ p = .int .i64 (i : Int) ∧ ∃ c all a1 n q firm, cv = .pointer (some ⟨c, 0, none⟩) ∧ v = .slice a1 n q ∧ f = .int .i64 ((firm : Nat) : Int) ∧ Hid (KR w c Db all firm i wr a1 n q)) (fun _ _ _ p _ => LN - (intOf p).toNat)
  case atStart => exact ⟨0, by omega, by omega, rfl, c, [], _, _, _, 0, rfl, rfl, rfl, s0⟩
  case round =>
    obtain ⟨i, hi, hiL, rfl, c, all, a1, n, q, firm, rfl, rfl, rfl, hI⟩ := hrel
    clear s0
    rcases Nat.lt_or_ge i LN with hlt | hge
    · rcases Nat.lt_or_ge i 60 with h60 | h60
      · have hlen' := hLN.out
        obtain ⟨o, ho⟩ : ∃ o, l[i]? = some o := ⟨_, List.getElem?_eq_getElem (by omega)⟩
        obtain ⟨b, off, rfl, hb, hcells⟩ := hl.out (fun e => by rw [e] at ho; simp at ho)
        have hoo := hok.out o (List.mem_of_getElem? ho)
        obtain ⟨pa, pq, hc0, hpl, hpm, hpi⟩ := hcells i o ho
        obtain ⟨okind, onum, okey, oval, opk⟩ := o
        obtain ⟨PN, hPN⟩ : ∃ PN, opk.length = PN := ⟨_, rfl⟩
        obtain ⟨hnl0, hni, hfn, hnq, N, mb, S, K, hS⟩ := hI.out
        obtain ⟨k1, k2, k3, k4, k5⟩ := hc0 wr hI.out.bel
        have hpi : Hid (∀ W, Below w.heap.size w W → IntsAt W N pa opk) := fun W hB => by have := hS.cur.lo; exact hpi W N this hB
        have hnl : Hid (n = all.length) := hnl0
        have hS : Hid (KS w N c Db mb S K all all firm i wr (.slice a1 n q)) := hS
        have hkind : -9223372036854775808 ≤ okind ∧ okind < 9223372036854775808 := hoo.kind
        have hnum : -9223372036854775808 ≤ onum ∧ onum < 9223372036854775808 := hoo.num
        have hkey : okey.size ≤ maxLen := hoo.key
        have hpks : Hid (∀ p ∈ opk, -9223372036854775808 ≤ p ∧ p < 9223372036854775808) := hoo.picks
        simp only at k1 k2 k3 k4 k5 hpl
        rw [hPN] at k5 hpl
        have hPN : Hid (opk.length = PN) := hPN
        have hpl : Hid (PN ≤ pq) := hpl
        have hpm : Hid (pq ≤ maxLen) := hpm
        have g1 : (i : Int) < (LN : Int) := by omega
        have g2 : (0 : Int) ≤ (i : Int) := by omega
        have g3 : (i : Int) < 60 := by omega
        have g4 : IntKind.i64.wrap ((i : Int) + 1) = (i : Int) + 1 := by simp [IntKind.wrap, IntKind.bits, IntKind.signed]; omega
        obtain ⟨B0, hB0⟩ : ∃ B0, wr.heap.size = B0 := ⟨_, rfl⟩
        have hSb : Hid (∀ o x : Obj, Hid (KS w N c Db mb S K all all firm i ((wr.alloc o).alloc x) (.slice a1 n q))) := fun o x => hS.out.boxes o x
        have hbx : Hid (∀ (W : World) (o : Obj) k u b, Oth ((wr.alloc o).alloc (bxX k u b)) W → W.cell? ⟨B0 + 1, 0, none⟩ = some (.string k) ∧ W.cell? ⟨B0 + 1, 1, none⟩ = some (.string u) ∧ W.cell? ⟨B0 + 1, 2, none⟩ = some (.bool b)) := fun W o k u b h => by rw [← hB0]; exact box_two wr W o k u b h
        have hbo : Hid (∀ (W : World) (x : Obj), Oth ((wr.alloc (bxO ⟨okind, onum, okey, oval, opk⟩ pa PN pq)).alloc x) W → W.cell? ⟨B0, 1, none⟩ = some (.int .i64 onum)) := fun W x h => by rw [← hB0]; exact box_one wr W ⟨okind, onum, okey, oval, opk⟩ pa PN pq x h
        obtain ⟨t, ht⟩ : ∃ t, Int.tmod okind 10 = t := ⟨_, rfl⟩
        have ht1 : -10 < t ∧ t < 10 := by rw [← ht]; exact ⟨by have := Int.lt_tmod_of_pos okind (b := 10) (by decide); omega, Int.tmod_lt_of_pos okind (by decide)⟩
        have htw : IntKind.i64.wrap t = t := by simp [IntKind.wrap, IntKind.bits, IntKind.signed]; omega
        clear hcells hb hI hlen' hoo hc0 ho hnl0 hkind
        by_cases t3 : t = 3
        · as_aux_lemma =>
            subst t3
            obtain ⟨E, hE0, hE1, hE2⟩ := keeps_del hS.out (by omega) okey hkey
            obtain ⟨B, hB⟩ : ∃ B, K.broken = B := ⟨_, rfl⟩
            have h28 : Hid (∀ W, Hid (KS w N c Db mb S K all all firm i W (.slice a1 n q)) → Calls Tryz.prog 28 #[.pointer (some ⟨c, 0, none⟩)] W fun e w' => e = .returned (.bool B) ∧ w' = W) := fun W h => by rw [← hB]; exact keeps_broken h.out
            rw [hB] at hE0
            clear hB hpi hpks hPN hpl hpm hnum ht1
            by_cases e0 : E = 0
            · subst e0
              have hc19 : Hid (∀ W g qq, Hid (KS w N c Db mb S K all all firm i W (.slice a1 n q)) → W.cell? ⟨g, 0, none⟩ = some (.string okey) → Calls Tryz.prog 19 #[.pointer (some ⟨c, 0, none⟩), .slice (some ⟨g, 0, none⟩) 1 qq] W fun e w' => e = .returned (.int .i64 0) ∧ Hid (KI w c Db (all ++ [⟨okey, ⟨#[]⟩, true⟩]) all firm (i + 1) w' (.slice a1 n q)) ∧ Hid (Oth W w')) := fun W g qq h hc => hE1 (.inl rfl) W _ g qq h.out hc
              clear hE0 hE1 hE2
              have hSd : Hid (∀ o x ob : Obj, Hid (KS w N c Db mb S K all all firm i (((wr.alloc o).alloc x).alloc ob) (.slice a1 n q))) := fun o x ob => (hSb.out o x).out.below ((Below.refl _ _).alloc (Nat.le_refl _) ob)
              have hcl : Hid (∀ o x : Obj, (((wr.alloc o).alloc x).alloc (.cells #[.string okey] 9)).cell? ⟨B0 + 2, 0, none⟩ = some (.string okey)) := fun o x => by
                have := new_cell ((wr.alloc o).alloc x) okey
                rw [World.size_alloc, World.size_alloc, hB0] at this
                exact this
              have hot : Hid (∀ (o x ob : Obj) (W : World), Oth (((wr.alloc o).alloc x).alloc ob) W → Oth ((wr.alloc o).alloc x) W) := fun o x ob W h => (Oth.ofBelow ((Below.refl _ _).alloc (Nat.le_refl _) ob)).trans h
              go_wp2_with (first
                | (at_builtin; go_loud (refine wpList_append_src rfl _ _ 48 rfl w.heap.size 52 i52 (.agg #[.string ⟨#[]⟩, .string ⟨#[]⟩, .bool false]) 3 40 Tryz.underlying48 hi52 hz0 hz1 hz2 rfl (by decide) _ _ _ (W3R.alloc _) rfl [.string okey, .string ⟨#[]⟩, .bool true] (some ⟨w3.heap.size, 0, none⟩) 1 1 rfl rfl (fun _ => ⟨_, rfl, new_threek w3 okey ⟨#[]⟩ true⟩) (by simp [Value.oneCell']) (by unfold maxLen; omega) (by omega) (by have := s3.out.bel.size; simp; omega) ?_; intro v4 w4 own4 grow4 loc4; clear loc4; obtain ⟨a4, c4, rfl⟩ := row_slice own4; have s4 := mk4 _ _ _ _ own4 grow4; clear own4 grow4))
                | (go_at_call 19; refine (hc19.out _ _ _ (hSd.out _ _ _) (hcl.out _ _)).mono ?_; rintro e w3 ⟨rfl, s3, ot⟩; obtain ⟨m1, m2, m3⟩ := hbx.out w3 _ _ _ _ (hot.out _ _ _ _ ot.out); have W3R := s3.out.row; rw [← hnl.out] at W3R; have mk4 : ∀ (a4 : Option Addr) n4 c4 (w4 : World), w4.ownsRow w.heap.size 52 3 (.slice a4 n4 c4) (n + 1) (rowI all ++ [.string okey, .string ⟨#[]⟩, .bool true]) → (w3.alloc (.cells #[.string okey, .string ⟨#[]⟩, .bool true] 52)).grownBy w4 (Value.slice a1 n q).ownBlock → Hid (KR w c Db (all ++ [⟨okey, ⟨#[]⟩, true⟩]) firm (i + 1) w4 a4 n4 c4) := fun a4 n4 c4 w4 ho hg => keeps_app hnl.out hni hfn s3.out ho hg)
                | (go_at_call 28; refine (h28.out _ (hSb.out _ _)).mono ?_; rintro e wb ⟨rfl, eb⟩; rw [eb]; clear eb))
              go_roundw
              case rel => exact ⟨i + 1, by omega, by omega, by simp, c, _, _, _, _, firm, rfl, rfl, rfl, s4⟩
              case measure => simp; omega
            by_cases e23 : E = 23
            · subst e23
              obtain rfl := hE0 rfl
              have hc19 : Hid (∀ W g qq, Hid (KS w N c Db mb S K all all firm i W (.slice a1 n q)) → W.cell? ⟨g, 0, none⟩ = some (.string okey) → Calls Tryz.prog 19 #[.pointer (some ⟨c, 0, none⟩), .slice (some ⟨g, 0, none⟩) 1 qq] W fun e w' => e = .returned (.int .i64 23) ∧ Hid (KI w c Db (all ++ [⟨okey, ⟨#[]⟩, true⟩]) all firm (i + 1) w' (.slice a1 n q)) ∧ Hid (Oth W w')) := fun W g qq h hc => hE1 (.inr rfl) W _ g qq h.out hc
              clear hE0 hE1 hE2
              have hSd : Hid (∀ o x ob : Obj, Hid (KS w N c Db mb S K all all firm i (((wr.alloc o).alloc x).alloc ob) (.slice a1 n q))) := fun o x ob => (hSb.out o x).out.below ((Below.refl _ _).alloc (Nat.le_refl _) ob)
              have hcl : Hid (∀ o x : Obj, (((wr.alloc o).alloc x).alloc (.cells #[.string okey] 9)).cell? ⟨B0 + 2, 0, none⟩ = some (.string okey)) := fun o x => by
                have := new_cell ((wr.alloc o).alloc x) okey
                rw [World.size_alloc, World.size_alloc, hB0] at this
                exact this
              have hot : Hid (∀ (o x ob : Obj) (W : World), Oth (((wr.alloc o).alloc x).alloc ob) W → Oth ((wr.alloc o).alloc x) W) := fun o x ob W h => (Oth.ofBelow ((Below.refl _ _).alloc (Nat.le_refl _) ob)).trans h
              go_wp2_with (first
                | (at_builtin; go_loud (refine wpList_append_src rfl _ _ 48 rfl w.heap.size 52 i52 (.agg #[.string ⟨#[]⟩, .string ⟨#[]⟩, .bool false]) 3 40 Tryz.underlying48 hi52 hz0 hz1 hz2 rfl (by decide) _ _ _ (W3R.alloc _) rfl [.string okey, .string ⟨#[]⟩, .bool true] (some ⟨w3.heap.size, 0, none⟩) 1 1 rfl rfl (fun _ => ⟨_, rfl, new_threek w3 okey ⟨#[]⟩ true⟩) (by simp [Value.oneCell']) (by unfold maxLen; omega) (by omega) (by have := s3.out.bel.size; simp; omega) ?_; intro v4 w4 own4 grow4 loc4; clear loc4; obtain ⟨a4, c4, rfl⟩ := row_slice own4; have s4 := mk4 _ _ _ _ own4 grow4; clear own4 grow4))
                | (go_at_call 19; refine (hc19.out _ _ _ (hSd.out _ _ _) (hcl.out _ _)).mono ?_; rintro e w3 ⟨rfl, s3, ot⟩; obtain ⟨m1, m2, m3⟩ := hbx.out w3 _ _ _ _ (hot.out _ _ _ _ ot.out); have W3R := s3.out.row; rw [← hnl.out] at W3R; have mk4 : ∀ (a4 : Option Addr) n4 c4 (w4 : World), w4.ownsRow w.heap.size 52 3 (.slice a4 n4 c4) (n + 1) (rowI all ++ [.string okey, .string ⟨#[]⟩, .bool true]) → (w3.alloc (.cells #[.string okey, .string ⟨#[]⟩, .bool true] 52)).grownBy w4 (Value.slice a1 n q).ownBlock → Hid (KR w c Db (all ++ [⟨okey, ⟨#[]⟩, true⟩]) firm (i + 1) w4 a4 n4 c4) := fun a4 n4 c4 w4 ho hg => keeps_app hnl.out hni hfn s3.out ho hg)
                | (go_at_call 28; refine (h28.out _ (hSb.out _ _)).mono ?_; rintro e wb ⟨rfl, eb⟩; rw [eb]; clear eb))
              go_roundw
              case rel => exact ⟨i + 1, by omega, by omega, by simp, c, _, _, _, _, firm, rfl, rfl, rfl, s4⟩
              case measure => simp; omega
            have e0b : (E == 0) = false := beq_eq_false_iff_ne.2 e0
            have e23b : (E == 23) = false := beq_eq_false_iff_ne.2 e23
            have hc19 : Hid (∀ W g qq, Hid (KS w N c Db mb S K all all firm i W (.slice a1 n q)) → W.cell? ⟨g, 0, none⟩ = some (.string okey) → Calls Tryz.prog 19 #[.pointer (some ⟨c, 0, none⟩), .slice (some ⟨g, 0, none⟩) 1 qq] W fun e w' => e = .returned (.int .i64 E) ∧ Hid (KI w c Db all all firm (i + 1) w' (.slice a1 n q)) ∧ Hid (Oth W w')) := fun W g qq h hc => hE2 (fun e => e.elim e0 e23) W _ g qq h.out hc
            clear hE0 hE1 hE2
            clear e0 e23
            have hSd : Hid (∀ o x ob : Obj, Hid (KS w N c Db mb S K all all firm i (((wr.alloc o).alloc x).alloc ob) (.slice a1 n q))) := fun o x ob => (hSb.out o x).out.below ((Below.refl _ _).alloc (Nat.le_refl _) ob)
            have hcl : Hid (∀ o x : Obj, (((wr.alloc o).alloc x).alloc (.cells #[.string okey] 9)).cell? ⟨B0 + 2, 0, none⟩ = some (.string okey)) := fun o x => by
              have := new_cell ((wr.alloc o).alloc x) okey
              rw [World.size_alloc, World.size_alloc, hB0] at this
              exact this
            have hot : Hid (∀ (o x ob : Obj) (W : World), Oth (((wr.alloc o).alloc x).alloc ob) W → Oth ((wr.alloc o).alloc x) W) := fun o x ob W h => (Oth.ofBelow ((Below.refl _ _).alloc (Nat.le_refl _) ob)).trans h
            go_wp2_with (first
              | (go_at_call 19; refine (hc19.out _ _ _ (hSd.out _ _ _) (hcl.out _ _)).mono ?_; rintro e w3 ⟨rfl, s3, ot⟩; obtain ⟨m1, m2, m3⟩ := hbx.out w3 _ _ _ _ (hot.out _ _ _ _ ot.out); have S5 : Hid (KR w c Db all firm (i + 1) w3 a1 n q) := ⟨hnl.out, by omega, hfn, hnq, s3.out⟩; clear s3)
              | (go_at_call 28; refine (h28.out _ (hSb.out _ _)).mono ?_; rintro e wb ⟨rfl, eb⟩; rw [eb]; clear eb))
            go_roundw
            case rel => exact ⟨i + 1, by omega, by omega, by simp, c, _, _, _, _, firm, rfl, rfl, rfl, S5⟩
            case measure => simp; omega
        have n3 : (t == 3) = false := beq_eq_false_iff_ne.2 t3
        by_cases t4 : t = 4
        · as_aux_lemma =>
            subst t4
            obtain ⟨E, hE1, hE2⟩ := keeps_sync hS.out
            clear hpi hpks hPN hpl hpm hnum ht1
            by_cases e0 : E = 0
            · subst e0
              have hc20 : Hid (∀ W, Hid (KS w N c Db mb S K all all firm i W (.slice a1 n q)) → Calls Tryz.prog 20 #[.pointer (some ⟨c, 0, none⟩)] W fun e w' => e = .returned (.int .i64 0) ∧ Hid (KR w c Db all n (i + 1) w' a1 n q)) := fun W h => (hE1 rfl W _ h.out).mono fun e w' ⟨e1, e2⟩ => ⟨e1, hnl.out, by omega, Nat.le_refl _, hnq, by rw [← hnl.out] at e2; exact e2⟩
              clear hE1 hE2
              go_wp2_with (go_at_call 20; refine (hc20.out _ (hSb.out _ _)).mono ?_; rintro e w3 ⟨rfl, s3⟩)
              go_roundw
              case rel => exact ⟨i + 1, by omega, by omega, by simp, c, _, _, _, _, n, rfl, rfl, rfl, s3⟩
              case measure => simp; omega
            have e0b : (E == 0) = false := beq_eq_false_iff_ne.2 e0
            have hc20 : Hid (∀ W, Hid (KS w N c Db mb S K all all firm i W (.slice a1 n q)) → Calls Tryz.prog 20 #[.pointer (some ⟨c, 0, none⟩)] W fun e w' => e = .returned (.int .i64 E) ∧ Hid (KR w c Db all firm (i + 1) w' a1 n q)) := fun W h => (hE2 e0 W _ h.out).mono fun e w' ⟨e1, e2⟩ => ⟨e1, hnl.out, by omega, hfn, hnq, e2⟩
            clear hE1 hE2 e0
            go_wp2_with (go_at_call 20; refine (hc20.out _ (hSb.out _ _)).mono ?_; rintro e w3 ⟨rfl, s3⟩)
            go_roundw
            case rel => exact ⟨i + 1, by omega, by omega, by simp, c, _, _, _, _, firm, rfl, rfl, rfl, s3⟩
            case measure => simp; omega
        have n4 : (t == 4) = false := beq_eq_false_iff_ne.2 t4
        by_cases t5 : t = 5
        · as_aux_lemma =>
            subst t5
            obtain ⟨r8, hr8⟩ : ∃ r8, Int.tmod onum 8 = r8 := ⟨_, rfl⟩
            have hr1 : -8 < r8 ∧ r8 < 8 := by rw [← hr8]; exact ⟨by have := Int.lt_tmod_of_pos onum (b := 8) (by decide); omega, Int.tmod_lt_of_pos onum (by decide)⟩
            have hrw : IntKind.i64.wrap r8 = r8 := by simp [IntKind.wrap, IntKind.bits, IntKind.signed]; omega
            have hc30 : Hid (∀ W, Hid (KS w N c Db mb S K all all firm i W (.slice a1 n q)) → Calls Tryz.prog 30 #[.pointer (some ⟨Db, 0, none⟩), .int .i64 r8] W fun e w' => e = .returned (.tuple #[]) ∧ Hid (KR w c Db all firm (i + 1) w' a1 n q)) := fun W h => (keeps_arm h.out r8 (by omega)).mono fun e w' ⟨e1, e2⟩ => ⟨e1, hnl.out, by omega, hfn, hnq, e2⟩
            clear hpi hpks hPN hpl hpm hnum ht1 hr1
            go_wp2_with (go_at_call 30; refine (hc30.out _ (hSb.out _ _)).mono ?_; rintro e w3 ⟨rfl, s3⟩)
            go_roundw
            case rel => exact ⟨i + 1, by omega, by omega, by simp, c, _, _, _, _, firm, rfl, rfl, rfl, s3⟩
            case measure => simp; omega
        have n5 : (t == 5) = false := beq_eq_false_iff_ne.2 t5
        by_cases t6 : t = 6
        · as_aux_lemma =>
            subst t6
            obtain ⟨r8, hr8⟩ : ∃ r8, Int.tmod onum 8 = r8 := ⟨_, rfl⟩
            have hr1 : -8 < r8 ∧ r8 < 8 := by rw [← hr8]; exact ⟨by have := Int.lt_tmod_of_pos onum (b := 8) (by decide); omega, Int.tmod_lt_of_pos onum (by decide)⟩
            have hrw : IntKind.i64.wrap r8 = r8 := by simp [IntKind.wrap, IntKind.bits, IntKind.signed]; omega
            have hc30 : Hid (∀ W, Hid (KS w N c Db mb S K all all firm i W (.slice a1 n q)) → Calls Tryz.prog 30 #[.pointer (some ⟨Db, 0, none⟩), .int .i64 r8] W fun e w' => e = .returned (.tuple #[]) ∧ Hid (KR w c Db all firm (i + 1) w' a1 n q)) := fun W h => (keeps_arm h.out r8 (by omega)).mono fun e w' ⟨e1, e2⟩ => ⟨e1, hnl.out, by omega, hfn, hnq, e2⟩
            clear hpi hpks hPN hpl hpm hnum ht1 hr1
            go_wp2_with (go_at_call 30; refine (hc30.out _ (hSb.out _ _)).mono ?_; rintro e w3 ⟨rfl, s3⟩)
            go_roundw
            case rel => exact ⟨i + 1, by omega, by omega, by simp, c, _, _, _, _, firm, rfl, rfl, rfl, s3⟩
            case measure => simp; omega
        have n6 : (t == 6) = false := beq_eq_false_iff_ne.2 t6
        by_cases t7 : t = 7
        · subst t7
          obtain ⟨L, bb, hL⟩ := hS.out.kp.crash opk
          have hrise : Rising (crashS S opk).fs := crash_rise hS.out.cur.dfine.rise opk
          obtain ⟨S1, hS1⟩ : ∃ S1, crashS S opk = S1 := ⟨_, rfl⟩
          have hcalm : Calm S1 := by rw [← hS1]; exact ⟨rfl, rfl⟩
          have h31 : Hid (∀ W, Hid (KS w N c Db mb S K all all firm i W (.slice a1 n q)) → Calls Tryz.prog 31 #[.pointer (some ⟨Db, 0, none⟩), .slice pa PN pq] W fun e w' => e = .returned (.tuple #[]) ∧ Hid (KD w N Db S1 all firm i L bb w' (.slice a1 n q)) ∧ Hid (Oth W w')) := fun W h => by
            have := keeps_crash h.out opk hpks.out L bb hL pa pq (by rw [hPN.out]; exact hpl.out) hpm.out (hpi.out W h.out.cur.bel)
            rw [hPN.out, hS1] at this
            exact this
          rw [hS1] at hL hrise
          obtain ⟨r3, hr3⟩ : ∃ r3, Int.tmod onum 3 = r3 := ⟨_, rfl⟩
          have hr1 : -3 < r3 ∧ r3 < 3 := by rw [← hr3]; exact ⟨by have := Int.lt_tmod_of_pos onum (b := 3) (by decide); omega, Int.tmod_lt_of_pos onum (by decide)⟩
          have hrw : IntKind.i64.wrap r3 = r3 := by simp [IntKind.wrap, IntKind.bits, IntKind.signed]; omega
          have h23 : Hid (∀ W c2 kv, Hid (KO w c2 Db all firm i kv W (.slice a1 n q)) → Calls Tryz.prog 23 #[.pointer (some ⟨c2, 0, none⟩)] W fun e w' => ∃ a2 n2 q2, e = .returned (.slice a2 n2 q2) ∧ Hid (KO w c2 Db all firm i kv w' (.slice a1 n q) ∧ w'.ownsRow w.heap.size 103 2 (.slice a2 n2 q2) (kvL kv).length (cellsP (kvL kv)))) := fun W c2 kv h => keeps_fold h.out
          have h30 : Hid (∀ W c2 kv, Hid (KO w c2 Db all firm i kv W (.slice a1 n q)) → Calls Tryz.prog 30 #[.pointer (some ⟨Db, 0, none⟩), .int .i64 (-1)] W fun e w' => e = .returned (.tuple #[]) ∧ Hid (KO w c2 Db all firm i kv w' (.slice a1 n q))) := fun W c2 kv h => keeps_arm1 h.out
          clear hpi hpks hPN hpl hpm hnum ht1 hr1
          by_cases r0 : r3 = 0
          · subst r0
            have h30a : Hid (∀ W, Hid (KD w N Db S1 all firm i L bb W (.slice a1 n q)) → Calls Tryz.prog 30 #[.pointer (some ⟨Db, 0, none⟩), .int .i64 0] W fun e w' => e = .returned (.tuple #[]) ∧ Hid (KD w N Db { S1 with armed := true, ahead := 0 } all firm i L bb w' (.slice a1 n q))) := fun W h => keeps_arm0 h.out
            obtain ⟨S2, hS2⟩ : ∃ S2 : Dk, { S1 with armed := true, ahead := 0 } = S2 := ⟨_, rfl⟩
            have hL2 : CrX S2 all firm i L bb := by rw [← hS2]; exact hL.of rfl
            have hon2 : S2.on = true := by rw [← hS2]; exact hcalm.on
            have har2 : S2.armed = true := by rw [← hS2]
            have hah2 : S2.ahead = 0 := by rw [← hS2]
            rw [hS2] at h30a
            by_cases hLe : L = []
            · as_aux_lemma =>
                subst hLe
                obtain ⟨hE, hO⟩ := hL2.empty hon2
                have h16 : Hid (∀ W , Hid (KD w N Db S2 all firm i [] bb W (.slice a1 n q)) → Calls Tryz.prog 16 #[.pointer (some ⟨Db, 0, none⟩), .string v1B] W fun e w' => ∃ c2 kv, e = .returned (.tuple #[.pointer (some ⟨c2, 0, none⟩), .int .i64 0]) ∧ Hid (KO w c2 Db all firm i kv w' (.slice a1 n q))) := fun W h => (keeps_open h.out hon2 (by omega) hE _ hO).mono fun e w' ⟨c2, e1, e2⟩ => ⟨c2, _, e1, e2⟩
                clear hE hO hL hL2 hrise hcalm hS1 hS2 hon2 har2 hah2
                go_wp2_with (first
                  | (go_at_call 23; refine (h23.out _ _ _ tP).mono ?_; rintro e wf ⟨a2, n2, q2, rfl, tF⟩)
                  | (go_at_call 30; refine (h30.out _ _ _ tO).mono ?_; rintro e wp ⟨rfl, tP⟩)
                  | (go_at_call 16; refine (h16.out _ tA).mono ?_; rintro e wo ⟨c2, kv, rfl, tO⟩)
                  | (go_at_call 30; refine (h30a.out _ tC).mono ?_; rintro e w4 ⟨rfl, tA⟩)
                  | (go_at_call 31; refine (h31.out _ (hSb.out _ _)).mono ?_; rintro e w3 ⟨rfl, tC, ot⟩; have m1 := hbo.out w3 _ ot.out))
                clear h16 h30 h30a h31 h23 tO tP tA tC hS
                go_loopw [16, 18] (fun atv p wr => ∃ j : Nat, p = .int .i64 ((j : Int) - 1) ∧ j ≤ n + 1 ∧ firm ≤ j ∧ Hid (KO w c2 Db all firm i kv wr (.slice a1 n q) ∧ wr.ownsRow w.heap.size 103 2 (.slice a2 n2 q2) (kvL kv).length (cellsP (kvL kv))) ∧ ((atv = .int .i64 (-1) ∧ Hid (∀ x, j ≤ x → x ≤ n → kvL kv ≠ kvL (kvOf (all.take x)))) ∨ (atv = .int .i64 (j : Int) ∧ j ≤ n ∧ Hid (kvL kv = kvL (kvOf (all.take j)))))) (fun _ p _ => (intOf p + 1).toNat)
                case atStart => exact ⟨n + 1, by simp, Nat.le_refl _, by omega, tF, .inl ⟨rfl, fun x h1 h2 => by omega⟩⟩
                case round =>
                  obtain ⟨j, rfl, hj1, hj2, tJ, hat⟩ := hrel
                  clear tF
                  rcases hat with ⟨rfl, hno⟩ | ⟨rfl, hj3, hyes⟩
                  · rcases Nat.lt_or_ge firm j with hfj | hfj
                    · obtain ⟨k, rfl⟩ : ∃ k, j = k + 1 := ⟨j - 1, by omega⟩
                      have ek : ((k + 1 : Nat) : Int) - 1 = (k : Int) := by omega
                      rw [ek]
                      have x1 : (firm : Int) ≤ (k : Int) := by omega
                      have x2 : (0 : Int) ≤ (k : Int) := by omega
                      have x3 : (k : Int) ≤ (q : Int) := by omega
                      have x4 : IntKind.i64.wrap ((k : Int) - 1) = (k : Int) - 1 := by simp [IntKind.wrap, IntKind.bits, IntKind.signed]; omega
                      have h33 : Hid (∀ W, Hid (KO w c2 Db all firm i kv W (.slice a1 n q) ∧ W.ownsRow w.heap.size 103 2 (.slice a2 n2 q2) (kvL kv).length (cellsP (kvL kv))) → Calls Tryz.prog 33 #[.slice a1 k q] W fun e w' => ∃ a3 n3 q3, e = .returned (.slice a3 n3 q3) ∧ Hid ((KO w c2 Db all firm i kv w' (.slice a1 n q) ∧ w'.ownsRow w.heap.size 103 2 (.slice a2 n2 q2) (kvL kv).length (cellsP (kvL kv))) ∧ w'.ownsRow w.heap.size 103 2 (.slice a3 n3 q3) (kvL (kvOf (all.take k))).length (cellsP (kvL (kvOf (all.take k)))))) := fun W h => (keeps_rfold h.out.1 h.out.2 (by omega) k (by omega)).mono fun e w' ⟨a3, n3, q3, e1, e2, e3⟩ => ⟨a3, n3, q3, e1, e2, e3⟩
                      by_cases hm : kvL kv = kvL (kvOf (all.take k))
                      · have h32 : Hid (∀ W u x, Hid ((KO w c2 Db all firm i kv W (.slice a1 n q) ∧ W.ownsRow w.heap.size 103 2 u (kvL kv).length (cellsP (kvL kv))) ∧ W.ownsRow w.heap.size 103 2 x (kvL (kvOf (all.take k))).length (cellsP (kvL (kvOf (all.take k))))) → Calls Tryz.prog 32 #[u, x] W fun e w' => e = .returned (.bool true) ∧ Hid (KO w c2 Db all firm i kv w' (.slice a1 n q) ∧ w'.ownsRow w.heap.size 103 2 u (kvL kv).length (cellsP (kvL kv)))) := fun W u x h => (keeps_same h.out.1 h.out.2 (by omega)).mono fun e w' ⟨e1, e2, e3⟩ => ⟨by rw [e1, decide_eq_true hm], e2, e3⟩
                        have hm : Hid _ := hm
                        clear hno ek
                        go_wp2_with (first
                          | (go_at_call 32; refine (h32.out _ _ _ tG).mono ?_; rintro e w7 ⟨rfl, tH⟩)
                          | (go_at_call 33; refine (h33.out _ tJ).mono ?_; rintro e w6 ⟨a3, n3, q3, rfl, tG⟩))
                        go_roundw
                        case rel => exact ⟨k, rfl, by omega, by omega, tH, .inr ⟨rfl, by omega, hm⟩⟩
                        case measure => simp
                      · have h32 : Hid (∀ W u x, Hid ((KO w c2 Db all firm i kv W (.slice a1 n q) ∧ W.ownsRow w.heap.size 103 2 u (kvL kv).length (cellsP (kvL kv))) ∧ W.ownsRow w.heap.size 103 2 x (kvL (kvOf (all.take k))).length (cellsP (kvL (kvOf (all.take k))))) → Calls Tryz.prog 32 #[u, x] W fun e w' => e = .returned (.bool false) ∧ Hid (KO w c2 Db all firm i kv w' (.slice a1 n q) ∧ w'.ownsRow w.heap.size 103 2 u (kvL kv).length (cellsP (kvL kv)))) := fun W u x h => (keeps_same h.out.1 h.out.2 (by omega)).mono fun e w' ⟨e1, e2, e3⟩ => ⟨by rw [e1, decide_eq_false hm], e2, e3⟩
                        have hno : Hid (∀ x, k ≤ x → x ≤ n → kvL kv ≠ kvL (kvOf (all.take x))) := fun x h1 h2 e => by
                          rcases Nat.lt_or_ge k x with h3 | h3
                          · exact hno.out x h3 h2 e
                          · have : x = k := by omega
                            rw [this] at e; exact hm e
                        clear hm ek
                        go_wp2_with (first
                          | (go_at_call 32; refine (h32.out _ _ _ tG).mono ?_; rintro e w7 ⟨rfl, tH⟩)
                          | (go_at_call 33; refine (h33.out _ tJ).mono ?_; rintro e w6 ⟨a3, n3, q3, rfl, tG⟩))
                        go_roundw
                        case rel => exact ⟨k, rfl, by omega, by omega, tH, .inl ⟨rfl, hno⟩⟩
                        case measure => simp
                    · exfalso
                      obtain ⟨x, h1, h2, h3⟩ := keeps_ex tJ.out.1
                      exact hno.out x (by omega) (by have := hnl.out; omega) h3
                  · have s6 : Hid (KR w c2 Db (all.take j) j (i + 1) wr a1 j q) := ⟨by rw [List.length_take]; have := hnl.out; omega, by omega, Nat.le_refl _, by omega, keeps_found tJ.out.1 hj3 hnl.out hyes.out⟩
                    clear hyes tJ
                    have y1 : ¬ ((j : Int) < 0) := by omega
                    have y2 : (0 : Int) ≤ (j : Int) := by omega
                    have y3 : (j : Int) ≤ (q : Int) := by omega
                    rcases Nat.lt_or_ge firm j with hfj | hfj
                    · have x1 : (firm : Int) ≤ (j : Int) - 1 := by omega
                      go_wp2
                      go_roundw
                      case rel => exact ⟨i + 1, by omega, by omega, by simp, c2, _, _, _, _, j, rfl, rfl, rfl, s6⟩
                      case measure => simp; omega
                    · have x1 : ¬ (firm : Int) ≤ (j : Int) - 1 := by omega
                      go_wp2
                      go_roundw
                      case rel => exact ⟨i + 1, by omega, by omega, by simp, c2, _, _, _, _, j, rfl, rfl, rfl, s6⟩
                      case measure => simp; omega
            as_aux_lemma =>
              obtain ⟨hE, hf⟩ := hL2.dark hLe hon2 har2 hah2
              obtain ⟨S3, hS3⟩ : ∃ S3, ldS S2 v1B L = S3 := ⟨_, rfl⟩
              have h16a : Hid (∀ W, Hid (KD w N Db S2 all firm i L bb W (.slice a1 n q)) → Calls Tryz.prog 16 #[.pointer (some ⟨Db, 0, none⟩), .string v1B] W fun e w' => e = .returned (.tuple #[.pointer none, .int .i64 23]) ∧ ∃ N2, Hid (KD w N2 Db S3 all firm i L bb w' (.slice a1 n q))) := fun W h => by
                have := keeps_dark h.out hon2 (by omega) hE hf
                rw [hS3] at this
                exact this
              rw [hS3] at hf
              have hL3 : CrX S3 all firm i L bb := hL2.of hf
              obtain ⟨L4, hL4⟩ := hL3.again []
              have hr4 : Rising (crashS S3 []).fs := crash_rise (by rw [hf, ← hS2]; exact hrise) []
              obtain ⟨S4, hS4⟩ : ∃ S4, crashS S3 [] = S4 := ⟨_, rfl⟩
              have hcalm4 : Calm S4 := by rw [← hS4]; exact ⟨rfl, rfl⟩
              have h31b : Hid (∀ W N2, Hid (KD w N2 Db S3 all firm i L bb W (.slice a1 n q)) → Calls Tryz.prog 31 #[.pointer (some ⟨Db, 0, none⟩), .slice none 0 0] W fun e w' => e = .returned (.tuple #[]) ∧ Hid (KD w N2 Db S4 all firm i L4 bb w' (.slice a1 n q))) := fun W N2 h => by
                have := keeps_crash2 h.out hL4
                rw [hS4] at this
                exact this
              rw [hS4] at hL4 hr4
              obtain ⟨hE4, hO4⟩ := hL4.calm hcalm4 hr4
              have h16b : Hid (∀ W N2, Hid (KD w N2 Db S4 all firm i L4 bb W (.slice a1 n q)) → Calls Tryz.prog 16 #[.pointer (some ⟨Db, 0, none⟩), .string v1B] W fun e w' => ∃ c2 kv, e = .returned (.tuple #[.pointer (some ⟨c2, 0, none⟩), .int .i64 0]) ∧ Hid (KO w c2 Db all firm i kv w' (.slice a1 n q))) := fun W N2 h => (keeps_open h.out hcalm4.on (by omega) hE4 _ hO4).mono fun e w' ⟨c2, e1, e2⟩ => ⟨c2, _, e1, e2⟩
              clear hE hf hE4 hO4 hL hL2 hL3 hL4 hrise hr4 hcalm hcalm4 hS1 hS2 hS3 hS4 hon2 har2 hah2 hLe
              go_wp2_with (first
                | (go_at_call 23; refine (h23.out _ _ _ tP).mono ?_; rintro e wf ⟨a2, n2, q2, rfl, tF⟩)
                | (go_at_call 30; refine (h30.out _ _ _ tO).mono ?_; rintro e wp ⟨rfl, tP⟩)
                | (go_at_call 16; refine (h16b.out _ _ tC2).mono ?_; rintro e wo ⟨c2, kv, rfl, tO⟩)
                | (go_at_call 31; refine (h31b.out _ _ tK).mono ?_; rintro e w6 ⟨rfl, tC2⟩)
                | (go_at_call 16; refine (h16a.out _ tA).mono ?_; rintro e w5 ⟨rfl, N2, tK⟩)
                | (go_at_call 30; refine (h30a.out _ tC).mono ?_; rintro e w4 ⟨rfl, tA⟩)
                | (go_at_call 31; refine (h31.out _ (hSb.out _ _)).mono ?_; rintro e w3 ⟨rfl, tC, ot⟩; have m1 := hbo.out w3 _ ot.out))
              clear h16a h16b h30 h30a h31 h31b h23 tO tP tA tC tC2 tK hS
              go_loopw [16, 18] (fun atv p wr => ∃ j : Nat, p = .int .i64 ((j : Int) - 1) ∧ j ≤ n + 1 ∧ firm ≤ j ∧ Hid (KO w c2 Db all firm i kv wr (.slice a1 n q) ∧ wr.ownsRow w.heap.size 103 2 (.slice a2 n2 q2) (kvL kv).length (cellsP (kvL kv))) ∧ ((atv = .int .i64 (-1) ∧ Hid (∀ x, j ≤ x → x ≤ n → kvL kv ≠ kvL (kvOf (all.take x)))) ∨ (atv = .int .i64 (j : Int) ∧ j ≤ n ∧ Hid (kvL kv = kvL (kvOf (all.take j)))))) (fun _ p _ => (intOf p + 1).toNat)
              case atStart => exact ⟨n + 1, by simp, Nat.le_refl _, by omega, tF, .inl ⟨rfl, fun x h1 h2 => by omega⟩⟩
              case round =>
                obtain ⟨j, rfl, hj1, hj2, tJ, hat⟩ := hrel
                clear tF
                rcases hat with ⟨rfl, hno⟩ | ⟨rfl, hj3, hyes⟩
                · rcases Nat.lt_or_ge firm j with hfj | hfj
                  · obtain ⟨k, rfl⟩ : ∃ k, j = k + 1 := ⟨j - 1, by omega⟩
                    have ek : ((k + 1 : Nat) : Int) - 1 = (k : Int) := by omega
                    rw [ek]
                    have x1 : (firm : Int) ≤ (k : Int) := by omega
                    have x2 : (0 : Int) ≤ (k : Int) := by omega
                    have x3 : (k : Int) ≤ (q : Int) := by omega
                    have x4 : IntKind.i64.wrap ((k : Int) - 1) = (k : Int) - 1 := by simp [IntKind.wrap, IntKind.bits, IntKind.signed]; omega
                    have h33 : Hid (∀ W, Hid (KO w c2 Db all firm i kv W (.slice a1 n q) ∧ W.ownsRow w.heap.size 103 2 (.slice a2 n2 q2) (kvL kv).length (cellsP (kvL kv))) → Calls Tryz.prog 33 #[.slice a1 k q] W fun e w' => ∃ a3 n3 q3, e = .returned (.slice a3 n3 q3) ∧ Hid ((KO w c2 Db all firm i kv w' (.slice a1 n q) ∧ w'.ownsRow w.heap.size 103 2 (.slice a2 n2 q2) (kvL kv).length (cellsP (kvL kv))) ∧ w'.ownsRow w.heap.size 103 2 (.slice a3 n3 q3) (kvL (kvOf (all.take k))).length (cellsP (kvL (kvOf (all.take k)))))) := fun W h => (keeps_rfold h.out.1 h.out.2 (by omega) k (by omega)).mono fun e w' ⟨a3, n3, q3, e1, e2, e3⟩ => ⟨a3, n3, q3, e1, e2, e3⟩
                    by_cases hm : kvL kv = kvL (kvOf (all.take k))
                    · have h32 : Hid (∀ W u x, Hid ((KO w c2 Db all firm i kv W (.slice a1 n q) ∧ W.ownsRow w.heap.size 103 2 u (kvL kv).length (cellsP (kvL kv))) ∧ W.ownsRow w.heap.size 103 2 x (kvL (kvOf (all.take k))).length (cellsP (kvL (kvOf (all.take k))))) → Calls Tryz.prog 32 #[u, x] W fun e w' => e = .returned (.bool true) ∧ Hid (KO w c2 Db all firm i kv w' (.slice a1 n q) ∧ w'.ownsRow w.heap.size 103 2 u (kvL kv).length (cellsP (kvL kv)))) := fun W u x h => (keeps_same h.out.1 h.out.2 (by omega)).mono fun e w' ⟨e1, e2, e3⟩ => ⟨by rw [e1, decide_eq_true hm], e2, e3⟩
                      have hm : Hid _ := hm
                      clear hno ek
                      go_wp2_with (first
                        | (go_at_call 32; refine (h32.out _ _ _ tG).mono ?_; rintro e w7 ⟨rfl, tH⟩)
                        | (go_at_call 33; refine (h33.out _ tJ).mono ?_; rintro e w6 ⟨a3, n3, q3, rfl, tG⟩))
                      go_roundw
                      case rel => exact ⟨k, rfl, by omega, by omega, tH, .inr ⟨rfl, by omega, hm⟩⟩
                      case measure => simp
                    · have h32 : Hid (∀ W u x, Hid ((KO w c2 Db all firm i kv W (.slice a1 n q) ∧ W.ownsRow w.heap.size 103 2 u (kvL kv).length (cellsP (kvL kv))) ∧ W.ownsRow w.heap.size 103 2 x (kvL (kvOf (all.take k))).length (cellsP (kvL (kvOf (all.take k))))) → Calls Tryz.prog 32 #[u, x] W fun e w' => e = .returned (.bool false) ∧ Hid (KO w c2 Db all firm i kv w' (.slice a1 n q) ∧ w'.ownsRow w.heap.size 103 2 u (kvL kv).length (cellsP (kvL kv)))) := fun W u x h => (keeps_same h.out.1 h.out.2 (by omega)).mono fun e w' ⟨e1, e2, e3⟩ => ⟨by rw [e1, decide_eq_false hm], e2, e3⟩
                      have hno : Hid (∀ x, k ≤ x → x ≤ n → kvL kv ≠ kvL (kvOf (all.take x))) := fun x h1 h2 e => by
                        rcases Nat.lt_or_ge k x with h3 | h3
                        · exact hno.out x h3 h2 e
                        · have : x = k := by omega
                          rw [this] at e; exact hm e
                      clear hm ek
                      go_wp2_with (first
                        | (go_at_call 32; refine (h32.out _ _ _ tG).mono ?_; rintro e w7 ⟨rfl, tH⟩)
                        | (go_at_call 33; refine (h33.out _ tJ).mono ?_; rintro e w6 ⟨a3, n3, q3, rfl, tG⟩))
                      go_roundw
                      case rel => exact ⟨k, rfl, by omega, by omega, tH, .inl ⟨rfl, hno⟩⟩
                      case measure => simp
                  · exfalso
                    obtain ⟨x, h1, h2, h3⟩ := keeps_ex tJ.out.1
                    exact hno.out x (by omega) (by have := hnl.out; omega) h3
                · have s6 : Hid (KR w c2 Db (all.take j) j (i + 1) wr a1 j q) := ⟨by rw [List.length_take]; have := hnl.out; omega, by omega, Nat.le_refl _, by omega, keeps_found tJ.out.1 hj3 hnl.out hyes.out⟩
                  clear hyes tJ
                  have y1 : ¬ ((j : Int) < 0) := by omega
                  have y2 : (0 : Int) ≤ (j : Int) := by omega
                  have y3 : (j : Int) ≤ (q : Int) := by omega
                  rcases Nat.lt_or_ge firm j with hfj | hfj
                  · have x1 : (firm : Int) ≤ (j : Int) - 1 := by omega
                    go_wp2
                    go_roundw
                    case rel => exact ⟨i + 1, by omega, by omega, by simp, c2, _, _, _, _, j, rfl, rfl, rfl, s6⟩
                    case measure => simp; omega
                  · have x1 : ¬ (firm : Int) ≤ (j : Int) - 1 := by omega
                    go_wp2
                    go_roundw
                    case rel => exact ⟨i + 1, by omega, by omega, by simp, c2, _, _, _, _, j, rfl, rfl, rfl, s6⟩
                    case measure => simp; omega
          as_aux_lemma =>
            have r0b : (r3 == 0) = false := beq_eq_false_iff_ne.2 r0
            obtain ⟨hE, hO⟩ := hL.calm hcalm hrise
            have h16 : Hid (∀ W , Hid (KD w N Db S1 all firm i L bb W (.slice a1 n q)) → Calls Tryz.prog 16 #[.pointer (some ⟨Db, 0, none⟩), .string v1B] W fun e w' => ∃ c2 kv, e = .returned (.tuple #[.pointer (some ⟨c2, 0, none⟩), .int .i64 0]) ∧ Hid (KO w c2 Db all firm i kv w' (.slice a1 n q))) := fun W h => (keeps_open h.out hcalm.on (by omega) hE _ hO).mono fun e w' ⟨c2, e1, e2⟩ => ⟨c2, _, e1, e2⟩
            clear hE hO hL hrise hcalm hS1 r0
            go_wp2_with (first
              | (go_at_call 23; refine (h23.out _ _ _ tP).mono ?_; rintro e wf ⟨a2, n2, q2, rfl, tF⟩)
              | (go_at_call 30; refine (h30.out _ _ _ tO).mono ?_; rintro e wp ⟨rfl, tP⟩)
              | (go_at_call 16; refine (h16.out _ tC).mono ?_; rintro e wo ⟨c2, kv, rfl, tO⟩)
              | (go_at_call 31; refine (h31.out _ (hSb.out _ _)).mono ?_; rintro e w3 ⟨rfl, tC, ot⟩; have m1 := hbo.out w3 _ ot.out))
            clear h16 h30 h31 h23 tO tP tC hS
            go_loopw [16, 18] (fun atv p wr => ∃ j : Nat, p = .int .i64 ((j : Int) - 1) ∧ j ≤ n + 1 ∧ firm ≤ j ∧ Hid (KO w c2 Db all firm i kv wr (.slice a1 n q) ∧ wr.ownsRow w.heap.size 103 2 (.slice a2 n2 q2) (kvL kv).length (cellsP (kvL kv))) ∧ ((atv = .int .i64 (-1) ∧ Hid (∀ x, j ≤ x → x ≤ n → kvL kv ≠ kvL (kvOf (all.take x)))) ∨ (atv = .int .i64 (j : Int) ∧ j ≤ n ∧ Hid (kvL kv = kvL (kvOf (all.take j)))))) (fun _ p _ => (intOf p + 1).toNat)
            case atStart => exact ⟨n + 1, by simp, Nat.le_refl _, by omega, tF, .inl ⟨rfl, fun x h1 h2 => by omega⟩⟩
            case round =>
              obtain ⟨j, rfl, hj1, hj2, tJ, hat⟩ := hrel
              clear tF
              rcases hat with ⟨rfl, hno⟩ | ⟨rfl, hj3, hyes⟩
              · rcases Nat.lt_or_ge firm j with hfj | hfj
                · obtain ⟨k, rfl⟩ : ∃ k, j = k + 1 := ⟨j - 1, by omega⟩
                  have ek : ((k + 1 : Nat) : Int) - 1 = (k : Int) := by omega
                  rw [ek]
                  have x1 : (firm : Int) ≤ (k : Int) := by omega
                  have x2 : (0 : Int) ≤ (k : Int) := by omega
                  have x3 : (k : Int) ≤ (q : Int) := by omega
                  have x4 : IntKind.i64.wrap ((k : Int) - 1) = (k : Int) - 1 := by simp [IntKind.wrap, IntKind.bits, IntKind.signed]; omega
                  have h33 : Hid (∀ W, Hid (KO w c2 Db all firm i kv W (.slice a1 n q) ∧ W.ownsRow w.heap.size 103 2 (.slice a2 n2 q2) (kvL kv).length (cellsP (kvL kv))) → Calls Tryz.prog 33 #[.slice a1 k q] W fun e w' => ∃ a3 n3 q3, e = .returned (.slice a3 n3 q3) ∧ Hid ((KO w c2 Db all firm i kv w' (.slice a1 n q) ∧ w'.ownsRow w.heap.size 103 2 (.slice a2 n2 q2) (kvL kv).length (cellsP (kvL kv))) ∧ w'.ownsRow w.heap.size 103 2 (.slice a3 n3 q3) (kvL (kvOf (all.take k))).length (cellsP (kvL (kvOf (all.take k)))))) := fun W h => (keeps_rfold h.out.1 h.out.2 (by omega) k (by omega)).mono fun e w' ⟨a3, n3, q3, e1, e2, e3⟩ => ⟨a3, n3, q3, e1, e2, e3⟩
                  by_cases hm : kvL kv = kvL (kvOf (all.take k))
                  · have h32 : Hid (∀ W u x, Hid ((KO w c2 Db all firm i kv W (.slice a1 n q) ∧ W.ownsRow w.heap.size 103 2 u (kvL kv).length (cellsP (kvL kv))) ∧ W.ownsRow w.heap.size 103 2 x (kvL (kvOf (all.take k))).length (cellsP (kvL (kvOf (all.take k))))) → Calls Tryz.prog 32 #[u, x] W fun e w' => e = .returned (.bool true) ∧ Hid (KO w c2 Db all firm i kv w' (.slice a1 n q) ∧ w'.ownsRow w.heap.size 103 2 u (kvL kv).length (cellsP (kvL kv)))) := fun W u x h => (keeps_same h.out.1 h.out.2 (by omega)).mono fun e w' ⟨e1, e2, e3⟩ => ⟨by rw [e1, decide_eq_true hm], e2, e3⟩
                    have hm : Hid _ := hm
                    clear hno ek
                    go_wp2_with (first
                      | (go_at_call 32; refine (h32.out _ _ _ tG).mono ?_; rintro e w7 ⟨rfl, tH⟩)
                      | (go_at_call 33; refine (h33.out _ tJ).mono ?_; rintro e w6 ⟨a3, n3, q3, rfl, tG⟩))
                    go_roundw
                    case rel => exact ⟨k, rfl, by omega, by omega, tH, .inr ⟨rfl, by omega, hm⟩⟩
                    case measure => simp
                  · have h32 : Hid (∀ W u x, Hid ((KO w c2 Db all firm i kv W (.slice a1 n q) ∧ W.ownsRow w.heap.size 103 2 u (kvL kv).length (cellsP (kvL kv))) ∧ W.ownsRow w.heap.size 103 2 x (kvL (kvOf (all.take k))).length (cellsP (kvL (kvOf (all.take k))))) → Calls Tryz.prog 32 #[u, x] W fun e w' => e = .returned (.bool false) ∧ Hid (KO w c2 Db all firm i kv w' (.slice a1 n q) ∧ w'.ownsRow w.heap.size 103 2 u (kvL kv).length (cellsP (kvL kv)))) := fun W u x h => (keeps_same h.out.1 h.out.2 (by omega)).mono fun e w' ⟨e1, e2, e3⟩ => ⟨by rw [e1, decide_eq_false hm], e2, e3⟩
                    have hno : Hid (∀ x, k ≤ x → x ≤ n → kvL kv ≠ kvL (kvOf (all.take x))) := fun x h1 h2 e => by
                      rcases Nat.lt_or_ge k x with h3 | h3
                      · exact hno.out x h3 h2 e
                      · have : x = k := by omega
                        rw [this] at e; exact hm e
                    clear hm ek
                    go_wp2_with (first
                      | (go_at_call 32; refine (h32.out _ _ _ tG).mono ?_; rintro e w7 ⟨rfl, tH⟩)
                      | (go_at_call 33; refine (h33.out _ tJ).mono ?_; rintro e w6 ⟨a3, n3, q3, rfl, tG⟩))
                    go_roundw
                    case rel => exact ⟨k, rfl, by omega, by omega, tH, .inl ⟨rfl, hno⟩⟩
                    case measure => simp
                · exfalso
                  obtain ⟨x, h1, h2, h3⟩ := keeps_ex tJ.out.1
                  exact hno.out x (by omega) (by have := hnl.out; omega) h3
              · have s6 : Hid (KR w c2 Db (all.take j) j (i + 1) wr a1 j q) := ⟨by rw [List.length_take]; have := hnl.out; omega, by omega, Nat.le_refl _, by omega, keeps_found tJ.out.1 hj3 hnl.out hyes.out⟩
                clear hyes tJ
                have y1 : ¬ ((j : Int) < 0) := by omega
                have y2 : (0 : Int) ≤ (j : Int) := by omega
                have y3 : (j : Int) ≤ (q : Int) := by omega
                rcases Nat.lt_or_ge firm j with hfj | hfj
                · have x1 : (firm : Int) ≤ (j : Int) - 1 := by omega
                  go_wp2
                  go_roundw
                  case rel => exact ⟨i + 1, by omega, by omega, by simp, c2, _, _, _, _, j, rfl, rfl, rfl, s6⟩
                  case measure => simp; omega
                · have x1 : ¬ (firm : Int) ≤ (j : Int) - 1 := by omega
                  go_wp2
                  go_roundw
                  case rel => exact ⟨i + 1, by omega, by omega, by simp, c2, _, _, _, _, j, rfl, rfl, rfl, s6⟩
                  case measure => simp; omega
        have n7 : (t == 7) = false := beq_eq_false_iff_ne.2 t7
        by_cases t8 : t = 8
        · subst t8
          obtain ⟨L, bb, hL⟩ := hS.out.kp.crash opk
          have hrise : Rising (crashS S opk).fs := crash_rise hS.out.cur.dfine.rise opk
          obtain ⟨S1, hS1⟩ : ∃ S1, crashS S opk = S1 := ⟨_, rfl⟩
          have hcalm : Calm S1 := by rw [← hS1]; exact ⟨rfl, rfl⟩
          have h31 : Hid (∀ W, Hid (KS w N c Db mb S K all all firm i W (.slice a1 n q)) → Calls Tryz.prog 31 #[.pointer (some ⟨Db, 0, none⟩), .slice pa PN pq] W fun e w' => e = .returned (.tuple #[]) ∧ Hid (KD w N Db S1 all firm i L bb w' (.slice a1 n q)) ∧ Hid (Oth W w')) := fun W h => by
            have := keeps_crash h.out opk hpks.out L bb hL pa pq (by rw [hPN.out]; exact hpl.out) hpm.out (hpi.out W h.out.cur.bel)
            rw [hPN.out, hS1] at this
            exact this
          rw [hS1] at hL hrise
          obtain ⟨r3, hr3⟩ : ∃ r3, Int.tmod onum 3 = r3 := ⟨_, rfl⟩
          have hr1 : -3 < r3 ∧ r3 < 3 := by rw [← hr3]; exact ⟨by have := Int.lt_tmod_of_pos onum (b := 3) (by decide); omega, Int.tmod_lt_of_pos onum (by decide)⟩
          have hrw : IntKind.i64.wrap r3 = r3 := by simp [IntKind.wrap, IntKind.bits, IntKind.signed]; omega
          have h23 : Hid (∀ W c2 kv, Hid (KO w c2 Db all firm i kv W (.slice a1 n q)) → Calls Tryz.prog 23 #[.pointer (some ⟨c2, 0, none⟩)] W fun e w' => ∃ a2 n2 q2, e = .returned (.slice a2 n2 q2) ∧ Hid (KO w c2 Db all firm i kv w' (.slice a1 n q) ∧ w'.ownsRow w.heap.size 103 2 (.slice a2 n2 q2) (kvL kv).length (cellsP (kvL kv)))) := fun W c2 kv h => keeps_fold h.out
          have h30 : Hid (∀ W c2 kv, Hid (KO w c2 Db all firm i kv W (.slice a1 n q)) → Calls Tryz.prog 30 #[.pointer (some ⟨Db, 0, none⟩), .int .i64 (-1)] W fun e w' => e = .returned (.tuple #[]) ∧ Hid (KO w c2 Db all firm i kv w' (.slice a1 n q))) := fun W c2 kv h => keeps_arm1 h.out
          clear hpi hpks hPN hpl hpm hnum ht1 hr1
          by_cases r0 : r3 = 0
          · subst r0
            have h30a : Hid (∀ W, Hid (KD w N Db S1 all firm i L bb W (.slice a1 n q)) → Calls Tryz.prog 30 #[.pointer (some ⟨Db, 0, none⟩), .int .i64 0] W fun e w' => e = .returned (.tuple #[]) ∧ Hid (KD w N Db { S1 with armed := true, ahead := 0 } all firm i L bb w' (.slice a1 n q))) := fun W h => keeps_arm0 h.out
            obtain ⟨S2, hS2⟩ : ∃ S2 : Dk, { S1 with armed := true, ahead := 0 } = S2 := ⟨_, rfl⟩
            have hL2 : CrX S2 all firm i L bb := by rw [← hS2]; exact hL.of rfl
            have hon2 : S2.on = true := by rw [← hS2]; exact hcalm.on
            have har2 : S2.armed = true := by rw [← hS2]
            have hah2 : S2.ahead = 0 := by rw [← hS2]
            rw [hS2] at h30a
            by_cases hLe : L = []
            · as_aux_lemma =>
                subst hLe
                obtain ⟨hE, hO⟩ := hL2.empty hon2
                have h16 : Hid (∀ W , Hid (KD w N Db S2 all firm i [] bb W (.slice a1 n q)) → Calls Tryz.prog 16 #[.pointer (some ⟨Db, 0, none⟩), .string v1B] W fun e w' => ∃ c2 kv, e = .returned (.tuple #[.pointer (some ⟨c2, 0, none⟩), .int .i64 0]) ∧ Hid (KO w c2 Db all firm i kv w' (.slice a1 n q))) := fun W h => (keeps_open h.out hon2 (by omega) hE _ hO).mono fun e w' ⟨c2, e1, e2⟩ => ⟨c2, _, e1, e2⟩
                clear hE hO hL hL2 hrise hcalm hS1 hS2 hon2 har2 hah2
                go_wp2_with (first
                  | (go_at_call 23; refine (h23.out _ _ _ tP).mono ?_; rintro e wf ⟨a2, n2, q2, rfl, tF⟩)
                  | (go_at_call 30; refine (h30.out _ _ _ tO).mono ?_; rintro e wp ⟨rfl, tP⟩)
                  | (go_at_call 16; refine (h16.out _ tA).mono ?_; rintro e wo ⟨c2, kv, rfl, tO⟩)
                  | (go_at_call 30; refine (h30a.out _ tC).mono ?_; rintro e w4 ⟨rfl, tA⟩)
                  | (go_at_call 31; refine (h31.out _ (hSb.out _ _)).mono ?_; rintro e w3 ⟨rfl, tC, ot⟩; have m1 := hbo.out w3 _ ot.out))
                clear h16 h30 h30a h31 h23 tO tP tA tC hS
                go_loopw [16, 18] (fun atv p wr => ∃ j : Nat, p = .int .i64 ((j : Int) - 1) ∧ j ≤ n + 1 ∧ firm ≤ j ∧ Hid (KO w c2 Db all firm i kv wr (.slice a1 n q) ∧ wr.ownsRow w.heap.size 103 2 (.slice a2 n2 q2) (kvL kv).length (cellsP (kvL kv))) ∧ ((atv = .int .i64 (-1) ∧ Hid (∀ x, j ≤ x → x ≤ n → kvL kv ≠ kvL (kvOf (all.take x)))) ∨ (atv = .int .i64 (j : Int) ∧ j ≤ n ∧ Hid (kvL kv = kvL (kvOf (all.take j)))))) (fun _ p _ => (intOf p + 1).toNat)
                case atStart => exact ⟨n + 1, by simp, Nat.le_refl _, by omega, tF, .inl ⟨rfl, fun x h1 h2 => by omega⟩⟩
                case round =>
                  obtain ⟨j, rfl, hj1, hj2, tJ, hat⟩ := hrel
                  clear tF
                  rcases hat with ⟨rfl, hno⟩ | ⟨rfl, hj3, hyes⟩
                  · rcases Nat.lt_or_ge firm j with hfj | hfj
                    · obtain ⟨k, rfl⟩ : ∃ k, j = k + 1 := ⟨j - 1, by omega⟩
                      have ek : ((k + 1 : Nat) : Int) - 1 = (k : Int) := by omega
                      rw [ek]
                      have x1 : (firm : Int) ≤ (k : Int) := by omega
                      have x2 : (0 : Int) ≤ (k : Int) := by omega
                      have x3 : (k : Int) ≤ (q : Int) := by omega
                      have x4 : IntKind.i64.wrap ((k : Int) - 1) = (k : Int) - 1 := by simp [IntKind.wrap, IntKind.bits, IntKind.signed]; omega
                      have h33 : Hid (∀ W, Hid (KO w c2 Db all firm i kv W (.slice a1 n q) ∧ W.ownsRow w.heap.size 103 2 (.slice a2 n2 q2) (kvL kv).length (cellsP (kvL kv))) → Calls Tryz.prog 33 #[.slice a1 k q] W fun e w' => ∃ a3 n3 q3, e = .returned (.slice a3 n3 q3) ∧ Hid ((KO w c2 Db all firm i kv w' (.slice a1 n q) ∧ w'.ownsRow w.heap.size 103 2 (.slice a2 n2 q2) (kvL kv).length (cellsP (kvL kv))) ∧ w'.ownsRow w.heap.size 103 2 (.slice a3 n3 q3) (kvL (kvOf (all.take k))).length (cellsP (kvL (kvOf (all.take k)))))) := fun W h => (keeps_rfold h.out.1 h.out.2 (by omega) k (by omega)).mono fun e w' ⟨a3, n3, q3, e1, e2, e3⟩ => ⟨a3, n3, q3, e1, e2, e3⟩
                      by_cases hm : kvL kv = kvL (kvOf (all.take k))
                      · have h32 : Hid (∀ W u x, Hid ((KO w c2 Db all firm i kv W (.slice a1 n q) ∧ W.ownsRow w.heap.size 103 2 u (kvL kv).length (cellsP (kvL kv))) ∧ W.ownsRow w.heap.size 103 2 x (kvL (kvOf (all.take k))).length (cellsP (kvL (kvOf (all.take k))))) → Calls Tryz.prog 32 #[u, x] W fun e w' => e = .returned (.bool true) ∧ Hid (KO w c2 Db all firm i kv w' (.slice a1 n q) ∧ w'.ownsRow w.heap.size 103 2 u (kvL kv).length (cellsP (kvL kv)))) := fun W u x h => (keeps_same h.out.1 h.out.2 (by omega)).mono fun e w' ⟨e1, e2, e3⟩ => ⟨by rw [e1, decide_eq_true hm], e2, e3⟩
                        have hm : Hid _ := hm
                        clear hno ek
                        go_wp2_with (first
                          | (go_at_call 32; refine (h32.out _ _ _ tG).mono ?_; rintro e w7 ⟨rfl, tH⟩)
                          | (go_at_call 33; refine (h33.out _ tJ).mono ?_; rintro e w6 ⟨a3, n3, q3, rfl, tG⟩))
                        go_roundw
                        case rel => exact ⟨k, rfl, by omega, by omega, tH, .inr ⟨rfl, by omega, hm⟩⟩
                        case measure => simp
                      · have h32 : Hid (∀ W u x, Hid ((KO w c2 Db all firm i kv W (.slice a1 n q) ∧ W.ownsRow w.heap.size 103 2 u (kvL kv).length (cellsP (kvL kv))) ∧ W.ownsRow w.heap.size 103 2 x (kvL (kvOf (all.take k))).length (cellsP (kvL (kvOf (all.take k))))) → Calls Tryz.prog 32 #[u, x] W fun e w' => e = .returned (.bool false) ∧ Hid (KO w c2 Db all firm i kv w' (.slice a1 n q) ∧ w'.ownsRow w.heap.size 103 2 u (kvL kv).length (cellsP (kvL kv)))) := fun W u x h => (keeps_same h.out.1 h.out.2 (by omega)).mono fun e w' ⟨e1, e2, e3⟩ => ⟨by rw [e1, decide_eq_false hm], e2, e3⟩
                        have hno : Hid (∀ x, k ≤ x → x ≤ n → kvL kv ≠ kvL (kvOf (all.take x))) := fun x h1 h2 e => by
                          rcases Nat.lt_or_ge k x with h3 | h3
                          · exact hno.out x h3 h2 e
                          · have : x = k := by omega
                            rw [this] at e; exact hm e
                        clear hm ek
                        go_wp2_with (first
                          | (go_at_call 32; refine (h32.out _ _ _ tG).mono ?_; rintro e w7 ⟨rfl, tH⟩)
                          | (go_at_call 33; refine (h33.out _ tJ).mono ?_; rintro e w6 ⟨a3, n3, q3, rfl, tG⟩))
                        go_roundw
                        case rel => exact ⟨k, rfl, by omega, by omega, tH, .inl ⟨rfl, hno⟩⟩
                        case measure => simp
                    · exfalso
                      obtain ⟨x, h1, h2, h3⟩ := keeps_ex tJ.out.1
                      exact hno.out x (by omega) (by have := hnl.out; omega) h3
                  · have s6 : Hid (KR w c2 Db (all.take j) j (i + 1) wr a1 j q) := ⟨by rw [List.length_take]; have := hnl.out; omega, by omega, Nat.le_refl _, by omega, keeps_found tJ.out.1 hj3 hnl.out hyes.out⟩
                    clear hyes tJ
                    have y1 : ¬ ((j : Int) < 0) := by omega
                    have y2 : (0 : Int) ≤ (j : Int) := by omega
                    have y3 : (j : Int) ≤ (q : Int) := by omega
                    rcases Nat.lt_or_ge firm j with hfj | hfj
                    · have x1 : (firm : Int) ≤ (j : Int) - 1 := by omega
                      go_wp2
                      go_roundw
                      case rel => exact ⟨i + 1, by omega, by omega, by simp, c2, _, _, _, _, j, rfl, rfl, rfl, s6⟩
                      case measure => simp; omega
                    · have x1 : ¬ (firm : Int) ≤ (j : Int) - 1 := by omega
                      go_wp2
                      go_roundw
                      case rel => exact ⟨i + 1, by omega, by omega, by simp, c2, _, _, _, _, j, rfl, rfl, rfl, s6⟩
                      case measure => simp; omega
            as_aux_lemma =>
              obtain ⟨hE, hf⟩ := hL2.dark hLe hon2 har2 hah2
              obtain ⟨S3, hS3⟩ : ∃ S3, ldS S2 v1B L = S3 := ⟨_, rfl⟩
              have h16a : Hid (∀ W, Hid (KD w N Db S2 all firm i L bb W (.slice a1 n q)) → Calls Tryz.prog 16 #[.pointer (some ⟨Db, 0, none⟩), .string v1B] W fun e w' => e = .returned (.tuple #[.pointer none, .int .i64 23]) ∧ ∃ N2, Hid (KD w N2 Db S3 all firm i L bb w' (.slice a1 n q))) := fun W h => by
                have := keeps_dark h.out hon2 (by omega) hE hf
                rw [hS3] at this
                exact this
              rw [hS3] at hf
              have hL3 : CrX S3 all firm i L bb := hL2.of hf
              obtain ⟨L4, hL4⟩ := hL3.again []
              have hr4 : Rising (crashS S3 []).fs := crash_rise (by rw [hf, ← hS2]; exact hrise) []
              obtain ⟨S4, hS4⟩ : ∃ S4, crashS S3 [] = S4 := ⟨_, rfl⟩
              have hcalm4 : Calm S4 := by rw [← hS4]; exact ⟨rfl, rfl⟩
              have h31b : Hid (∀ W N2, Hid (KD w N2 Db S3 all firm i L bb W (.slice a1 n q)) → Calls Tryz.prog 31 #[.pointer (some ⟨Db, 0, none⟩), .slice none 0 0] W fun e w' => e = .returned (.tuple #[]) ∧ Hid (KD w N2 Db S4 all firm i L4 bb w' (.slice a1 n q))) := fun W N2 h => by
                have := keeps_crash2 h.out hL4
                rw [hS4] at this
                exact this
              rw [hS4] at hL4 hr4
              obtain ⟨hE4, hO4⟩ := hL4.calm hcalm4 hr4
              have h16b : Hid (∀ W N2, Hid (KD w N2 Db S4 all firm i L4 bb W (.slice a1 n q)) → Calls Tryz.prog 16 #[.pointer (some ⟨Db, 0, none⟩), .string v1B] W fun e w' => ∃ c2 kv, e = .returned (.tuple #[.pointer (some ⟨c2, 0, none⟩), .int .i64 0]) ∧ Hid (KO w c2 Db all firm i kv w' (.slice a1 n q))) := fun W N2 h => (keeps_open h.out hcalm4.on (by omega) hE4 _ hO4).mono fun e w' ⟨c2, e1, e2⟩ => ⟨c2, _, e1, e2⟩
              clear hE hf hE4 hO4 hL hL2 hL3 hL4 hrise hr4 hcalm hcalm4 hS1 hS2 hS3 hS4 hon2 har2 hah2 hLe
              go_wp2_with (first
                | (go_at_call 23; refine (h23.out _ _ _ tP).mono ?_; rintro e wf ⟨a2, n2, q2, rfl, tF⟩)
                | (go_at_call 30; refine (h30.out _ _ _ tO).mono ?_; rintro e wp ⟨rfl, tP⟩)
                | (go_at_call 16; refine (h16b.out _ _ tC2).mono ?_; rintro e wo ⟨c2, kv, rfl, tO⟩)
                | (go_at_call 31; refine (h31b.out _ _ tK).mono ?_; rintro e w6 ⟨rfl, tC2⟩)
                | (go_at_call 16; refine (h16a.out _ tA).mono ?_; rintro e w5 ⟨rfl, N2, tK⟩)
                | (go_at_call 30; refine (h30a.out _ tC).mono ?_; rintro e w4 ⟨rfl, tA⟩)
                | (go_at_call 31; refine (h31.out _ (hSb.out _ _)).mono ?_; rintro e w3 ⟨rfl, tC, ot⟩; have m1 := hbo.out w3 _ ot.out))
              clear h16a h16b h30 h30a h31 h31b h23 tO tP tA tC tC2 tK hS
              go_loopw [16, 18] (fun atv p wr => ∃ j : Nat, p = .int .i64 ((j : Int) - 1) ∧ j ≤ n + 1 ∧ firm ≤ j ∧ Hid (KO w c2 Db all firm i kv wr (.slice a1 n q) ∧ wr.ownsRow w.heap.size 103 2 (.slice a2 n2 q2) (kvL kv).length (cellsP (kvL kv))) ∧ ((atv = .int .i64 (-1) ∧ Hid (∀ x, j ≤ x → x ≤ n → kvL kv ≠ kvL (kvOf (all.take x)))) ∨ (atv = .int .i64 (j : Int) ∧ j ≤ n ∧ Hid (kvL kv = kvL (kvOf (all.take j)))))) (fun _ p _ => (intOf p + 1).toNat)
              case atStart => exact ⟨n + 1, by simp, Nat.le_refl _, by omega, tF, .inl ⟨rfl, fun x h1 h2 => by omega⟩⟩
              case round =>
                obtain ⟨j, rfl, hj1, hj2, tJ, hat⟩ := hrel
                clear tF
                rcases hat with ⟨rfl, hno⟩ | ⟨rfl, hj3, hyes⟩
                · rcases Nat.lt_or_ge firm j with hfj | hfj
                  · obtain ⟨k, rfl⟩ : ∃ k, j = k + 1 := ⟨j - 1, by omega⟩
                    have ek : ((k + 1 : Nat) : Int) - 1 = (k : Int) := by omega
                    rw [ek]
                    have x1 : (firm : Int) ≤ (k : Int) := by omega
                    have x2 : (0 : Int) ≤ (k : Int) := by omega
                    have x3 : (k : Int) ≤ (q : Int) := by omega
                    have x4 : IntKind.i64.wrap ((k : Int) - 1) = (k : Int) - 1 := by simp [IntKind.wrap, IntKind.bits, IntKind.signed]; omega
                    have h33 : Hid (∀ W, Hid (KO w c2 Db all firm i kv W (.slice a1 n q) ∧ W.ownsRow w.heap.size 103 2 (.slice a2 n2 q2) (kvL kv).length (cellsP (kvL kv))) → Calls Tryz.prog 33 #[.slice a1 k q] W fun e w' => ∃ a3 n3 q3, e = .returned (.slice a3 n3 q3) ∧ Hid ((KO w c2 Db all firm i kv w' (.slice a1 n q) ∧ w'.ownsRow w.heap.size 103 2 (.slice a2 n2 q2) (kvL kv).length (cellsP (kvL kv))) ∧ w'.ownsRow w.heap.size 103 2 (.slice a3 n3 q3) (kvL (kvOf (all.take k))).length (cellsP (kvL (kvOf (all.take k)))))) := fun W h => (keeps_rfold h.out.1 h.out.2 (by omega) k (by omega)).mono fun e w' ⟨a3, n3, q3, e1, e2, e3⟩ => ⟨a3, n3, q3, e1, e2, e3⟩
                    by_cases hm : kvL kv = kvL (kvOf (all.take k))
                    · have h32 : Hid (∀ W u x, Hid ((KO w c2 Db all firm i kv W (.slice a1 n q) ∧ W.ownsRow w.heap.size 103 2 u (kvL kv).length (cellsP (kvL kv))) ∧ W.ownsRow w.heap.size 103 2 x (kvL (kvOf (all.take k))).length (cellsP (kvL (kvOf (all.take k))))) → Calls Tryz.prog 32 #[u, x] W fun e w' => e = .returned (.bool true) ∧ Hid (KO w c2 Db all firm i kv w' (.slice a1 n q) ∧ w'.ownsRow w.heap.size 103 2 u (kvL kv).length (cellsP (kvL kv)))) := fun W u x h => (keeps_same h.out.1 h.out.2 (by omega)).mono fun e w' ⟨e1, e2, e3⟩ => ⟨by rw [e1, decide_eq_true hm], e2, e3⟩
                      have hm : Hid _ := hm
                      clear hno ek
                      go_wp2_with (first
                        | (go_at_call 32; refine (h32.out _ _ _ tG).mono ?_; rintro e w7 ⟨rfl, tH⟩)
                        | (go_at_call 33; refine (h33.out _ tJ).mono ?_; rintro e w6 ⟨a3, n3, q3, rfl, tG⟩))
                      go_roundw
                      case rel => exact ⟨k, rfl, by omega, by omega, tH, .inr ⟨rfl, by omega, hm⟩⟩
                      case measure => simp
                    · have h32 : Hid (∀ W u x, Hid ((KO w c2 Db all firm i kv W (.slice a1 n q) ∧ W.ownsRow w.heap.size 103 2 u (kvL kv).length (cellsP (kvL kv))) ∧ W.ownsRow w.heap.size 103 2 x (kvL (kvOf (all.take k))).length (cellsP (kvL (kvOf (all.take k))))) → Calls Tryz.prog 32 #[u, x] W fun e w' => e = .returned (.bool false) ∧ Hid (KO w c2 Db all firm i kv w' (.slice a1 n q) ∧ w'.ownsRow w.heap.size 103 2 u (kvL kv).length (cellsP (kvL kv)))) := fun W u x h => (keeps_same h.out.1 h.out.2 (by omega)).mono fun e w' ⟨e1, e2, e3⟩ => ⟨by rw [e1, decide_eq_false hm], e2, e3⟩
                      have hno : Hid (∀ x, k ≤ x → x ≤ n → kvL kv ≠ kvL (kvOf (all.take x))) := fun x h1 h2 e => by
                        rcases Nat.lt_or_ge k x with h3 | h3
                        · exact hno.out x h3 h2 e
                        · have : x = k := by omega
                          rw [this] at e; exact hm e
                      clear hm ek
                      go_wp2_with (first
                        | (go_at_call 32; refine (h32.out _ _ _ tG).mono ?_; rintro e w7 ⟨rfl, tH⟩)
                        | (go_at_call 33; refine (h33.out _ tJ).mono ?_; rintro e w6 ⟨a3, n3, q3, rfl, tG⟩))
                      go_roundw
                      case rel => exact ⟨k, rfl, by omega, by omega, tH, .inl ⟨rfl, hno⟩⟩
                      case measure => simp
                  · exfalso
                    obtain ⟨x, h1, h2, h3⟩ := keeps_ex tJ.out.1
                    exact hno.out x (by omega) (by have := hnl.out; omega) h3
                · have s6 : Hid (KR w c2 Db (all.take j) j (i + 1) wr a1 j q) := ⟨by rw [List.length_take]; have := hnl.out; omega, by omega, Nat.le_refl _, by omega, keeps_found tJ.out.1 hj3 hnl.out hyes.out⟩
                  clear hyes tJ
                  have y1 : ¬ ((j : Int) < 0) := by omega
                  have y2 : (0 : Int) ≤ (j : Int) := by omega
                  have y3 : (j : Int) ≤ (q : Int) := by omega
                  rcases Nat.lt_or_ge firm j with hfj | hfj
                  · have x1 : (firm : Int) ≤ (j : Int) - 1 := by omega
                    go_wp2
                    go_roundw
                    case rel => exact ⟨i + 1, by omega, by omega, by simp, c2, _, _, _, _, j, rfl, rfl, rfl, s6⟩
                    case measure => simp; omega
                  · have x1 : ¬ (firm : Int) ≤ (j : Int) - 1 := by omega
                    go_wp2
                    go_roundw
                    case rel => exact ⟨i + 1, by omega, by omega, by simp, c2, _, _, _, _, j, rfl, rfl, rfl, s6⟩
                    case measure => simp; omega
          as_aux_lemma =>
            have r0b : (r3 == 0) = false := beq_eq_false_iff_ne.2 r0
            obtain ⟨hE, hO⟩ := hL.calm hcalm hrise
            have h16 : Hid (∀ W , Hid (KD w N Db S1 all firm i L bb W (.slice a1 n q)) → Calls Tryz.prog 16 #[.pointer (some ⟨Db, 0, none⟩), .string v1B] W fun e w' => ∃ c2 kv, e = .returned (.tuple #[.pointer (some ⟨c2, 0, none⟩), .int .i64 0]) ∧ Hid (KO w c2 Db all firm i kv w' (.slice a1 n q))) := fun W h => (keeps_open h.out hcalm.on (by omega) hE _ hO).mono fun e w' ⟨c2, e1, e2⟩ => ⟨c2, _, e1, e2⟩
            clear hE hO hL hrise hcalm hS1 r0
            go_wp2_with (first
              | (go_at_call 23; refine (h23.out _ _ _ tP).mono ?_; rintro e wf ⟨a2, n2, q2, rfl, tF⟩)
              | (go_at_call 30; refine (h30.out _ _ _ tO).mono ?_; rintro e wp ⟨rfl, tP⟩)
              | (go_at_call 16; refine (h16.out _ tC).mono ?_; rintro e wo ⟨c2, kv, rfl, tO⟩)
              | (go_at_call 31; refine (h31.out _ (hSb.out _ _)).mono ?_; rintro e w3 ⟨rfl, tC, ot⟩; have m1 := hbo.out w3 _ ot.out))
            clear h16 h30 h31 h23 tO tP tC hS
            go_loopw [16, 18] (fun atv p wr => ∃ j : Nat, p = .int .i64 ((j : Int) - 1) ∧ j ≤ n + 1 ∧ firm ≤ j ∧ Hid (KO w c2 Db all firm i kv wr (.slice a1 n q) ∧ wr.ownsRow w.heap.size 103 2 (.slice a2 n2 q2) (kvL kv).length (cellsP (kvL kv))) ∧ ((atv = .int .i64 (-1) ∧ Hid (∀ x, j ≤ x → x ≤ n → kvL kv ≠ kvL (kvOf (all.take x)))) ∨ (atv = .int .i64 (j : Int) ∧ j ≤ n ∧ Hid (kvL kv = kvL (kvOf (all.take j)))))) (fun _ p _ => (intOf p + 1).toNat)
            case atStart => exact ⟨n + 1, by simp, Nat.le_refl _, by omega, tF, .inl ⟨rfl, fun x h1 h2 => by omega⟩⟩
            case round =>
              obtain ⟨j, rfl, hj1, hj2, tJ, hat⟩ := hrel
              clear tF
              rcases hat with ⟨rfl, hno⟩ | ⟨rfl, hj3, hyes⟩
              · rcases Nat.lt_or_ge firm j with hfj | hfj
                · obtain ⟨k, rfl⟩ : ∃ k, j = k + 1 := ⟨j - 1, by omega⟩
                  have ek : ((k + 1 : Nat) : Int) - 1 = (k : Int) := by omega
                  rw [ek]
                  have x1 : (firm : Int) ≤ (k : Int) := by omega
                  have x2 : (0 : Int) ≤ (k : Int) := by omega
                  have x3 : (k : Int) ≤ (q : Int) := by omega
                  have x4 : IntKind.i64.wrap ((k : Int) - 1) = (k : Int) - 1 := by simp [IntKind.wrap, IntKind.bits, IntKind.signed]; omega
                  have h33 : Hid (∀ W, Hid (KO w c2 Db all firm i kv W (.slice a1 n q) ∧ W.ownsRow w.heap.size 103 2 (.slice a2 n2 q2) (kvL kv).length (cellsP (kvL kv))) → Calls Tryz.prog 33 #[.slice a1 k q] W fun e w' => ∃ a3 n3 q3, e = .returned (.slice a3 n3 q3) ∧ Hid ((KO w c2 Db all firm i kv w' (.slice a1 n q) ∧ w'.ownsRow w.heap.size 103 2 (.slice a2 n2 q2) (kvL kv).length (cellsP (kvL kv))) ∧ w'.ownsRow w.heap.size 103 2 (.slice a3 n3 q3) (kvL (kvOf (all.take k))).length (cellsP (kvL (kvOf (all.take k)))))) := fun W h => (keeps_rfold h.out.1 h.out.2 (by omega) k (by omega)).mono fun e w' ⟨a3, n3, q3, e1, e2, e3⟩ => ⟨a3, n3, q3, e1, e2, e3⟩
                  by_cases hm : kvL kv = kvL (kvOf (all.take k))
                  · have h32 : Hid (∀ W u x, Hid ((KO w c2 Db all firm i kv W (.slice a1 n q) ∧ W.ownsRow w.heap.size 103 2 u (kvL kv).length (cellsP (kvL kv))) ∧ W.ownsRow w.heap.size 103 2 x (kvL (kvOf (all.take k))).length (cellsP (kvL (kvOf (all.take k))))) → Calls Tryz.prog 32 #[u, x] W fun e w' => e = .returned (.bool true) ∧ Hid (KO w c2 Db all firm i kv w' (.slice a1 n q) ∧ w'.ownsRow w.heap.size 103 2 u (kvL kv).length (cellsP (kvL kv)))) := fun W u x h => (keeps_same h.out.1 h.out.2 (by omega)).mono fun e w' ⟨e1, e2, e3⟩ => ⟨by rw [e1, decide_eq_true hm], e2, e3⟩
                    have hm : Hid _ := hm
                    clear hno ek
                    go_wp2_with (first
                      | (go_at_call 32; refine (h32.out _ _ _ tG).mono ?_; rintro e w7 ⟨rfl, tH⟩)
                      | (go_at_call 33; refine (h33.out _ tJ).mono ?_; rintro e w6 ⟨a3, n3, q3, rfl, tG⟩))
                    go_roundw
                    case rel => exact ⟨k, rfl, by omega, by omega, tH, .inr ⟨rfl, by omega, hm⟩⟩
                    case measure => simp
                  · have h32 : Hid (∀ W u x, Hid ((KO w c2 Db all firm i kv W (.slice a1 n q) ∧ W.ownsRow w.heap.size 103 2 u (kvL kv).length (cellsP (kvL kv))) ∧ W.ownsRow w.heap.size 103 2 x (kvL (kvOf (all.take k))).length (cellsP (kvL (kvOf (all.take k))))) → Calls Tryz.prog 32 #[u, x] W fun e w' => e = .returned (.bool false) ∧ Hid (KO w c2 Db all firm i kv w' (.slice a1 n q) ∧ w'.ownsRow w.heap.size 103 2 u (kvL kv).length (cellsP (kvL kv)))) := fun W u x h => (keeps_same h.out.1 h.out.2 (by omega)).mono fun e w' ⟨e1, e2, e3⟩ => ⟨by rw [e1, decide_eq_false hm], e2, e3⟩
                    have hno : Hid (∀ x, k ≤ x → x ≤ n → kvL kv ≠ kvL (kvOf (all.take x))) := fun x h1 h2 e => by
                      rcases Nat.lt_or_ge k x with h3 | h3
                      · exact hno.out x h3 h2 e
                      · have : x = k := by omega
                        rw [this] at e; exact hm e
                    clear hm ek
                    go_wp2_with (first
                      | (go_at_call 32; refine (h32.out _ _ _ tG).mono ?_; rintro e w7 ⟨rfl, tH⟩)
                      | (go_at_call 33; refine (h33.out _ tJ).mono ?_; rintro e w6 ⟨a3, n3, q3, rfl, tG⟩))
                    go_roundw
                    case rel => exact ⟨k, rfl, by omega, by omega, tH, .inl ⟨rfl, hno⟩⟩
                    case measure => simp
                · exfalso
                  obtain ⟨x, h1, h2, h3⟩ := keeps_ex tJ.out.1
                  exact hno.out x (by omega) (by have := hnl.out; omega) h3
              · have s6 : Hid (KR w c2 Db (all.take j) j (i + 1) wr a1 j q) := ⟨by rw [List.length_take]; have := hnl.out; omega, by omega, Nat.le_refl _, by omega, keeps_found tJ.out.1 hj3 hnl.out hyes.out⟩
                clear hyes tJ
                have y1 : ¬ ((j : Int) < 0) := by omega
                have y2 : (0 : Int) ≤ (j : Int) := by omega
                have y3 : (j : Int) ≤ (q : Int) := by omega
                rcases Nat.lt_or_ge firm j with hfj | hfj
                · have x1 : (firm : Int) ≤ (j : Int) - 1 := by omega
                  go_wp2
                  go_roundw
                  case rel => exact ⟨i + 1, by omega, by omega, by simp, c2, _, _, _, _, j, rfl, rfl, rfl, s6⟩
                  case measure => simp; omega
                · have x1 : ¬ (firm : Int) ≤ (j : Int) - 1 := by omega
                  go_wp2
                  go_roundw
                  case rel => exact ⟨i + 1, by omega, by omega, by simp, c2, _, _, _, _, j, rfl, rfl, rfl, s6⟩
                  case measure => simp; omega
        have n8 : (t == 8) = false := beq_eq_false_iff_ne.2 t8
        by_cases t9 : t = 9
        · subst t9
          obtain ⟨L, bb, hL⟩ := hS.out.kp.crash opk
          have hrise : Rising (crashS S opk).fs := crash_rise hS.out.cur.dfine.rise opk
          obtain ⟨S1, hS1⟩ : ∃ S1, crashS S opk = S1 := ⟨_, rfl⟩
          have hcalm : Calm S1 := by rw [← hS1]; exact ⟨rfl, rfl⟩
          have h31 : Hid (∀ W, Hid (KS w N c Db mb S K all all firm i W (.slice a1 n q)) → Calls Tryz.prog 31 #[.pointer (some ⟨Db, 0, none⟩), .slice pa PN pq] W fun e w' => e = .returned (.tuple #[]) ∧ Hid (KD w N Db S1 all firm i L bb w' (.slice a1 n q)) ∧ Hid (Oth W w')) := fun W h => by
            have := keeps_crash h.out opk hpks.out L bb hL pa pq (by rw [hPN.out]; exact hpl.out) hpm.out (hpi.out W h.out.cur.bel)
            rw [hPN.out, hS1] at this
            exact this
          rw [hS1] at hL hrise
          obtain ⟨r3, hr3⟩ : ∃ r3, Int.tmod onum 3 = r3 := ⟨_, rfl⟩
          have hr1 : -3 < r3 ∧ r3 < 3 := by rw [← hr3]; exact ⟨by have := Int.lt_tmod_of_pos onum (b := 3) (by decide); omega, Int.tmod_lt_of_pos onum (by decide)⟩
          have hrw : IntKind.i64.wrap r3 = r3 := by simp [IntKind.wrap, IntKind.bits, IntKind.signed]; omega
          have h23 : Hid (∀ W c2 kv, Hid (KO w c2 Db all firm i kv W (.slice a1 n q)) → Calls Tryz.prog 23 #[.pointer (some ⟨c2, 0, none⟩)] W fun e w' => ∃ a2 n2 q2, e = .returned (.slice a2 n2 q2) ∧ Hid (KO w c2 Db all firm i kv w' (.slice a1 n q) ∧ w'.ownsRow w.heap.size 103 2 (.slice a2 n2 q2) (kvL kv).length (cellsP (kvL kv)))) := fun W c2 kv h => keeps_fold h.out
          have h30 : Hid (∀ W c2 kv, Hid (KO w c2 Db all firm i kv W (.slice a1 n q)) → Calls Tryz.prog 30 #[.pointer (some ⟨Db, 0, none⟩), .int .i64 (-1)] W fun e w' => e = .returned (.tuple #[]) ∧ Hid (KO w c2 Db all firm i kv w' (.slice a1 n q))) := fun W c2 kv h => keeps_arm1 h.out
          clear hpi hpks hPN hpl hpm hnum ht1 hr1
          by_cases r0 : r3 = 0
          · subst r0
            have h30a : Hid (∀ W, Hid (KD w N Db S1 all firm i L bb W (.slice a1 n q)) → Calls Tryz.prog 30 #[.pointer (some ⟨Db, 0, none⟩), .int .i64 0] W fun e w' => e = .returned (.tuple #[]) ∧ Hid (KD w N Db { S1 with armed := true, ahead := 0 } all firm i L bb w' (.slice a1 n q))) := fun W h => keeps_arm0 h.out
            obtain ⟨S2, hS2⟩ : ∃ S2 : Dk, { S1 with armed := true, ahead := 0 } = S2 := ⟨_, rfl⟩
            have hL2 : CrX S2 all firm i L bb := by rw [← hS2]; exact hL.of rfl
            have hon2 : S2.on = true := by rw [← hS2]; exact hcalm.on
            have har2 : S2.armed = true := by rw [← hS2]
            have hah2 : S2.ahead = 0 := by rw [← hS2]
            rw [hS2] at h30a
            by_cases hLe : L = []
            · as_aux_lemma =>
                subst hLe
                obtain ⟨hE, hO⟩ := hL2.empty hon2
                have h16 : Hid (∀ W , Hid (KD w N Db S2 all firm i [] bb W (.slice a1 n q)) → Calls Tryz.prog 16 #[.pointer (some ⟨Db, 0, none⟩), .string v1B] W fun e w' => ∃ c2 kv, e = .returned (.tuple #[.pointer (some ⟨c2, 0, none⟩), .int .i64 0]) ∧ Hid (KO w c2 Db all firm i kv w' (.slice a1 n q))) := fun W h => (keeps_open h.out hon2 (by omega) hE _ hO).mono fun e w' ⟨c2, e1, e2⟩ => ⟨c2, _, e1, e2⟩
                clear hE hO hL hL2 hrise hcalm hS1 hS2 hon2 har2 hah2
                go_wp2_with (first
                  | (go_at_call 23; refine (h23.out _ _ _ tP).mono ?_; rintro e wf ⟨a2, n2, q2, rfl, tF⟩)
                  | (go_at_call 30; refine (h30.out _ _ _ tO).mono ?_; rintro e wp ⟨rfl, tP⟩)
                  | (go_at_call 16; refine (h16.out _ tA).mono ?_; rintro e wo ⟨c2, kv, rfl, tO⟩)
                  | (go_at_call 30; refine (h30a.out _ tC).mono ?_; rintro e w4 ⟨rfl, tA⟩)
                  | (go_at_call 31; refine (h31.out _ (hSb.out _ _)).mono ?_; rintro e w3 ⟨rfl, tC, ot⟩; have m1 := hbo.out w3 _ ot.out))
                clear h16 h30 h30a h31 h23 tO tP tA tC hS
                go_loopw [16, 18] (fun atv p wr => ∃ j : Nat, p = .int .i64 ((j : Int) - 1) ∧ j ≤ n + 1 ∧ firm ≤ j ∧ Hid (KO w c2 Db all firm i kv wr (.slice a1 n q) ∧ wr.ownsRow w.heap.size 103 2 (.slice a2 n2 q2) (kvL kv).length (cellsP (kvL kv))) ∧ ((atv = .int .i64 (-1) ∧ Hid (∀ x, j ≤ x → x ≤ n → kvL kv ≠ kvL (kvOf (all.take x)))) ∨ (atv = .int .i64 (j : Int) ∧ j ≤ n ∧ Hid (kvL kv = kvL (kvOf (all.take j)))))) (fun _ p _ => (intOf p + 1).toNat)
                case atStart => exact ⟨n + 1, by simp, Nat.le_refl _, by omega, tF, .inl ⟨rfl, fun x h1 h2 => by omega⟩⟩
                case round =>
                  obtain ⟨j, rfl, hj1, hj2, tJ, hat⟩ := hrel
                  clear tF
                  rcases hat with ⟨rfl, hno⟩ | ⟨rfl, hj3, hyes⟩
                  · rcases Nat.lt_or_ge firm j with hfj | hfj
                    · obtain ⟨k, rfl⟩ : ∃ k, j = k + 1 := ⟨j - 1, by omega⟩
                      have ek : ((k + 1 : Nat) : Int) - 1 = (k : Int) := by omega
                      rw [ek]
                      have x1 : (firm : Int) ≤ (k : Int) := by omega
                      have x2 : (0 : Int) ≤ (k : Int) := by omega
                      have x3 : (k : Int) ≤ (q : Int) := by omega
                      have x4 : IntKind.i64.wrap ((k : Int) - 1) = (k : Int) - 1 := by simp [IntKind.wrap, IntKind.bits, IntKind.signed]; omega
                      have h33 : Hid (∀ W, Hid (KO w c2 Db all firm i kv W (.slice a1 n q) ∧ W.ownsRow w.heap.size 103 2 (.slice a2 n2 q2) (kvL kv).length (cellsP (kvL kv))) → Calls Tryz.prog 33 #[.slice a1 k q] W fun e w' => ∃ a3 n3 q3, e = .returned (.slice a3 n3 q3) ∧ Hid ((KO w c2 Db all firm i kv w' (.slice a1 n q) ∧ w'.ownsRow w.heap.size 103 2 (.slice a2 n2 q2) (kvL kv).length (cellsP (kvL kv))) ∧ w'.ownsRow w.heap.size 103 2 (.slice a3 n3 q3) (kvL (kvOf (all.take k))).length (cellsP (kvL (kvOf (all.take k)))))) := fun W h => (keeps_rfold h.out.1 h.out.2 (by omega) k (by omega)).mono fun e w' ⟨a3, n3, q3, e1, e2, e3⟩ => ⟨a3, n3, q3, e1, e2, e3⟩
                      by_cases hm : kvL kv = kvL (kvOf (all.take k))
                      · have h32 : Hid (∀ W u x, Hid ((KO w c2 Db all firm i kv W (.slice a1 n q) ∧ W.ownsRow w.heap.size 103 2 u (kvL kv).length (cellsP (kvL kv))) ∧ W.ownsRow w.heap.size 103 2 x (kvL (kvOf (all.take k))).length (cellsP (kvL (kvOf (all.take k))))) → Calls Tryz.prog 32 #[u, x] W fun e w' => e = .returned (.bool true) ∧ Hid (KO w c2 Db all firm i kv w' (.slice a1 n q) ∧ w'.ownsRow w.heap.size 103 2 u (kvL kv).length (cellsP (kvL kv)))) := fun W u x h => (keeps_same h.out.1 h.out.2 (by omega)).mono fun e w' ⟨e1, e2, e3⟩ => ⟨by rw [e1, decide_eq_true hm], e2, e3⟩
                        have hm : Hid _ := hm
                        clear hno ek
                        go_wp2_with (first
                          | (go_at_call 32; refine (h32.out _ _ _ tG).mono ?_; rintro e w7 ⟨rfl, tH⟩)
                          | (go_at_call 33; refine (h33.out _ tJ).mono ?_; rintro e w6 ⟨a3, n3, q3, rfl, tG⟩))
                        go_roundw
                        case rel => exact ⟨k, rfl, by omega, by omega, tH, .inr ⟨rfl, by omega, hm⟩⟩
                        case measure => simp
                      · have h32 : Hid (∀ W u x, Hid ((KO w c2 Db all firm i kv W (.slice a1 n q) ∧ W.ownsRow w.heap.size 103 2 u (kvL kv).length (cellsP (kvL kv))) ∧ W.ownsRow w.heap.size 103 2 x (kvL (kvOf (all.take k))).length (cellsP (kvL (kvOf (all.take k))))) → Calls Tryz.prog 32 #[u, x] W fun e w' => e = .returned (.bool false) ∧ Hid (KO w c2 Db all firm i kv w' (.slice a1 n q) ∧ w'.ownsRow w.heap.size 103 2 u (kvL kv).length (cellsP (kvL kv)))) := fun W u x h => (keeps_same h.out.1 h.out.2 (by omega)).mono fun e w' ⟨e1, e2, e3⟩ => ⟨by rw [e1, decide_eq_false hm], e2, e3⟩
                        have hno : Hid (∀ x, k ≤ x → x ≤ n → kvL kv ≠ kvL (kvOf (all.take x))) := fun x h1 h2 e => by
                          rcases Nat.lt_or_ge k x with h3 | h3
                          · exact hno.out x h3 h2 e
                          · have : x = k := by omega
                            rw [this] at e; exact hm e
                        clear hm ek
                        go_wp2_with (first
                          | (go_at_call 32; refine (h32.out _ _ _ tG).mono ?_; rintro e w7 ⟨rfl, tH⟩)
                          | (go_at_call 33; refine (h33.out _ tJ).mono ?_; rintro e w6 ⟨a3, n3, q3, rfl, tG⟩))
                        go_roundw
                        case rel => exact ⟨k, rfl, by omega, by omega, tH, .inl ⟨rfl, hno⟩⟩
                        case measure => simp
                    · exfalso
                      obtain ⟨x, h1, h2, h3⟩ := keeps_ex tJ.out.1
                      exact hno.out x (by omega) (by have := hnl.out; omega) h3
                  · have s6 : Hid (KR w c2 Db (all.take j) j (i + 1) wr a1 j q) := ⟨by rw [List.length_take]; have := hnl.out; omega, by omega, Nat.le_refl _, by omega, keeps_found tJ.out.1 hj3 hnl.out hyes.out⟩
                    clear hyes tJ
                    have y1 : ¬ ((j : Int) < 0) := by omega
                    have y2 : (0 : Int) ≤ (j : Int) := by omega
                    have y3 : (j : Int) ≤ (q : Int) := by omega
                    rcases Nat.lt_or_ge firm j with hfj | hfj
                    · have x1 : (firm : Int) ≤ (j : Int) - 1 := by omega
                      go_wp2
                      go_roundw
                      case rel => exact ⟨i + 1, by omega, by omega, by simp, c2, _, _, _, _, j, rfl, rfl, rfl, s6⟩
                      case measure => simp; omega
                    · have x1 : ¬ (firm : Int) ≤ (j : Int) - 1 := by omega
                      go_wp2
                      go_roundw
                      case rel => exact ⟨i + 1, by omega, by omega, by simp, c2, _, _, _, _, j, rfl, rfl, rfl, s6⟩
                      case measure => simp; omega
            as_aux_lemma =>
              obtain ⟨hE, hf⟩ := hL2.dark hLe hon2 har2 hah2
              obtain ⟨S3, hS3⟩ : ∃ S3, ldS S2 v1B L = S3 := ⟨_, rfl⟩
              have h16a : Hid (∀ W, Hid (KD w N Db S2 all firm i L bb W (.slice a1 n q)) → Calls Tryz.prog 16 #[.pointer (some ⟨Db, 0, none⟩), .string v1B] W fun e w' => e = .returned (.tuple #[.pointer none, .int .i64 23]) ∧ ∃ N2, Hid (KD w N2 Db S3 all firm i L bb w' (.slice a1 n q))) := fun W h => by
                have := keeps_dark h.out hon2 (by omega) hE hf
                rw [hS3] at this
                exact this
              rw [hS3] at hf
              have hL3 : CrX S3 all firm i L bb := hL2.of hf
              obtain ⟨L4, hL4⟩ := hL3.again []
              have hr4 : Rising (crashS S3 []).fs := crash_rise (by rw [hf, ← hS2]; exact hrise) []
              obtain ⟨S4, hS4⟩ : ∃ S4, crashS S3 [] = S4 := ⟨_, rfl⟩
              have hcalm4 : Calm S4 := by rw [← hS4]; exact ⟨rfl, rfl⟩
              have h31b : Hid (∀ W N2, Hid (KD w N2 Db S3 all firm i L bb W (.slice a1 n q)) → Calls Tryz.prog 31 #[.pointer (some ⟨Db, 0, none⟩), .slice none 0 0] W fun e w' => e = .returned (.tuple #[]) ∧ Hid (KD w N2 Db S4 all firm i L4 bb w' (.slice a1 n q))) := fun W N2 h => by
                have := keeps_crash2 h.out hL4
                rw [hS4] at this
                exact this
              rw [hS4] at hL4 hr4
              obtain ⟨hE4, hO4⟩ := hL4.calm hcalm4 hr4
              have h16b : Hid (∀ W N2, Hid (KD w N2 Db S4 all firm i L4 bb W (.slice a1 n q)) → Calls Tryz.prog 16 #[.pointer (some ⟨Db, 0, none⟩), .string v1B] W fun e w' => ∃ c2 kv, e = .returned (.tuple #[.pointer (some ⟨c2, 0, none⟩), .int .i64 0]) ∧ Hid (KO w c2 Db all firm i kv w' (.slice a1 n q))) := fun W N2 h => (keeps_open h.out hcalm4.on (by omega) hE4 _ hO4).mono fun e w' ⟨c2, e1, e2⟩ => ⟨c2, _, e1, e2⟩
              clear hE hf hE4 hO4 hL hL2 hL3 hL4 hrise hr4 hcalm hcalm4 hS1 hS2 hS3 hS4 hon2 har2 hah2 hLe
              go_wp2_with (first
                | (go_at_call 23; refine (h23.out _ _ _ tP).mono ?_; rintro e wf ⟨a2, n2, q2, rfl, tF⟩)
                | (go_at_call 30; refine (h30.out _ _ _ tO).mono ?_; rintro e wp ⟨rfl, tP⟩)
                | (go_at_call 16; refine (h16b.out _ _ tC2).mono ?_; rintro e wo ⟨c2, kv, rfl, tO⟩)
                | (go_at_call 31; refine (h31b.out _ _ tK).mono ?_; rintro e w6 ⟨rfl, tC2⟩)
                | (go_at_call 16; refine (h16a.out _ tA).mono ?_; rintro e w5 ⟨rfl, N2, tK⟩)
                | (go_at_call 30; refine (h30a.out _ tC).mono ?_; rintro e w4 ⟨rfl, tA⟩)
                | (go_at_call 31; refine (h31.out _ (hSb.out _ _)).mono ?_; rintro e w3 ⟨rfl, tC, ot⟩; have m1 := hbo.out w3 _ ot.out))
              clear h16a h16b h30 h30a h31 h31b h23 tO tP tA tC tC2 tK hS
              go_loopw [16, 18] (fun atv p wr => ∃ j : Nat, p = .int .i64 ((j : Int) - 1) ∧ j ≤ n + 1 ∧ firm ≤ j ∧ Hid (KO w c2 Db all firm i kv wr (.slice a1 n q) ∧ wr.ownsRow w.heap.size 103 2 (.slice a2 n2 q2) (kvL kv).length (cellsP (kvL kv))) ∧ ((atv = .int .i64 (-1) ∧ Hid (∀ x, j ≤ x → x ≤ n → kvL kv ≠ kvL (kvOf (all.take x)))) ∨ (atv = .int .i64 (j : Int) ∧ j ≤ n ∧ Hid (kvL kv = kvL (kvOf (all.take j)))))) (fun _ p _ => (intOf p + 1).toNat)
              case atStart => exact ⟨n + 1, by simp, Nat.le_refl _, by omega, tF, .inl ⟨rfl, fun x h1 h2 => by omega⟩⟩
              case round =>
                obtain ⟨j, rfl, hj1, hj2, tJ, hat⟩ := hrel
                clear tF
                rcases hat with ⟨rfl, hno⟩ | ⟨rfl, hj3, hyes⟩
                · rcases Nat.lt_or_ge firm j with hfj | hfj
                  · obtain ⟨k, rfl⟩ : ∃ k, j = k + 1 := ⟨j - 1, by omega⟩
                    have ek : ((k + 1 : Nat) : Int) - 1 = (k : Int) := by omega
                    rw [ek]
                    have x1 : (firm : Int) ≤ (k : Int) := by omega
                    have x2 : (0 : Int) ≤ (k : Int) := by omega
                    have x3 : (k : Int) ≤ (q : Int) := by omega
                    have x4 : IntKind.i64.wrap ((k : Int) - 1) = (k : Int) - 1 := by simp [IntKind.wrap, IntKind.bits, IntKind.signed]; omega
                    have h33 : Hid (∀ W, Hid (KO w c2 Db all firm i kv W (.slice a1 n q) ∧ W.ownsRow w.heap.size 103 2 (.slice a2 n2 q2) (kvL kv).length (cellsP (kvL kv))) → Calls Tryz.prog 33 #[.slice a1 k q] W fun e w' => ∃ a3 n3 q3, e = .returned (.slice a3 n3 q3) ∧ Hid ((KO w c2 Db all firm i kv w' (.slice a1 n q) ∧ w'.ownsRow w.heap.size 103 2 (.slice a2 n2 q2) (kvL kv).length (cellsP (kvL kv))) ∧ w'.ownsRow w.heap.size 103 2 (.slice a3 n3 q3) (kvL (kvOf (all.take k))).length (cellsP (kvL (kvOf (all.take k)))))) := fun W h => (keeps_rfold h.out.1 h.out.2 (by omega) k (by omega)).mono fun e w' ⟨a3, n3, q3, e1, e2, e3⟩ => ⟨a3, n3, q3, e1, e2, e3⟩
                    by_cases hm : kvL kv = kvL (kvOf (all.take k))
                    · have h32 : Hid (∀ W u x, Hid ((KO w c2 Db all firm i kv W (.slice a1 n q) ∧ W.ownsRow w.heap.size 103 2 u (kvL kv).length (cellsP (kvL kv))) ∧ W.ownsRow w.heap.size 103 2 x (kvL (kvOf (all.take k))).length (cellsP (kvL (kvOf (all.take k))))) → Calls Tryz.prog 32 #[u, x] W fun e w' => e = .returned (.bool true) ∧ Hid (KO w c2 Db all firm i kv w' (.slice a1 n q) ∧ w'.ownsRow w.heap.size 103 2 u (kvL kv).length (cellsP (kvL kv)))) := fun W u x h => (keeps_same h.out.1 h.out.2 (by omega)).mono fun e w' ⟨e1, e2, e3⟩ => ⟨by rw [e1, decide_eq_true hm], e2, e3⟩
                      have hm : Hid _ := hm
                      clear hno ek
                      go_wp2_with (first
                        | (go_at_call 32; refine (h32.out _ _ _ tG).mono ?_; rintro e w7 ⟨rfl, tH⟩)
                        | (go_at_call 33; refine (h33.out _ tJ).mono ?_; rintro e w6 ⟨a3, n3, q3, rfl, tG⟩))
                      go_roundw
                      case rel => exact ⟨k, rfl, by omega, by omega, tH, .inr ⟨rfl, by omega, hm⟩⟩
                      case measure => simp
                    · have h32 : Hid (∀ W u x, Hid ((KO w c2 Db all firm i kv W (.slice a1 n q) ∧ W.ownsRow w.heap.size 103 2 u (kvL kv).length (cellsP (kvL kv))) ∧ W.ownsRow w.heap.size 103 2 x (kvL (kvOf (all.take k))).length (cellsP (kvL (kvOf (all.take k))))) → Calls Tryz.prog 32 #[u, x] W fun e w' => e = .returned (.bool false) ∧ Hid (KO w c2 Db all firm i kv w' (.slice a1 n q) ∧ w'.ownsRow w.heap.size 103 2 u (kvL kv).length (cellsP (kvL kv)))) := fun W u x h => (keeps_same h.out.1 h.out.2 (by omega)).mono fun e w' ⟨e1, e2, e3⟩ => ⟨by rw [e1, decide_eq_false hm], e2, e3⟩
                      have hno : Hid (∀ x, k ≤ x → x ≤ n → kvL kv ≠ kvL (kvOf (all.take x))) := fun x h1 h2 e => by
                        rcases Nat.lt_or_ge k x with h3 | h3
                        · exact hno.out x h3 h2 e
                        · have : x = k := by omega
                          rw [this] at e; exact hm e
                      clear hm ek
                      go_wp2_with (first
                        | (go_at_call 32; refine (h32.out _ _ _ tG).mono ?_; rintro e w7 ⟨rfl, tH⟩)
                        | (go_at_call 33; refine (h33.out _ tJ).mono ?_; rintro e w6 ⟨a3, n3, q3, rfl, tG⟩))
                      go_roundw
                      case rel => exact ⟨k, rfl, by omega, by omega, tH, .inl ⟨rfl, hno⟩⟩
                      case measure => simp
                  · exfalso
                    obtain ⟨x, h1, h2, h3⟩ := keeps_ex tJ.out.1
                    exact hno.out x (by omega) (by have := hnl.out; omega) h3
                · have s6 : Hid (KR w c2 Db (all.take j) j (i + 1) wr a1 j q) := ⟨by rw [List.length_take]; have := hnl.out; omega, by omega, Nat.le_refl _, by omega, keeps_found tJ.out.1 hj3 hnl.out hyes.out⟩
                  clear hyes tJ
                  have y1 : ¬ ((j : Int) < 0) := by omega
                  have y2 : (0 : Int) ≤ (j : Int) := by omega
                  have y3 : (j : Int) ≤ (q : Int) := by omega
                  rcases Nat.lt_or_ge firm j with hfj | hfj
                  · have x1 : (firm : Int) ≤ (j : Int) - 1 := by omega
                    go_wp2
                    go_roundw
                    case rel => exact ⟨i + 1, by omega, by omega, by simp, c2, _, _, _, _, j, rfl, rfl, rfl, s6⟩
                    case measure => simp; omega
                  · have x1 : ¬ (firm : Int) ≤ (j : Int) - 1 := by omega
                    go_wp2
                    go_roundw
                    case rel => exact ⟨i + 1, by omega, by omega, by simp, c2, _, _, _, _, j, rfl, rfl, rfl, s6⟩
                    case measure => simp; omega
          as_aux_lemma =>
            have r0b : (r3 == 0) = false := beq_eq_false_iff_ne.2 r0
            obtain ⟨hE, hO⟩ := hL.calm hcalm hrise
            have h16 : Hid (∀ W , Hid (KD w N Db S1 all firm i L bb W (.slice a1 n q)) → Calls Tryz.prog 16 #[.pointer (some ⟨Db, 0, none⟩), .string v1B] W fun e w' => ∃ c2 kv, e = .returned (.tuple #[.pointer (some ⟨c2, 0, none⟩), .int .i64 0]) ∧ Hid (KO w c2 Db all firm i kv w' (.slice a1 n q))) := fun W h => (keeps_open h.out hcalm.on (by omega) hE _ hO).mono fun e w' ⟨c2, e1, e2⟩ => ⟨c2, _, e1, e2⟩
            clear hE hO hL hrise hcalm hS1 r0
            go_wp2_with (first
              | (go_at_call 23; refine (h23.out _ _ _ tP).mono ?_; rintro e wf ⟨a2, n2, q2, rfl, tF⟩)
              | (go_at_call 30; refine (h30.out _ _ _ tO).mono ?_; rintro e wp ⟨rfl, tP⟩)
              | (go_at_call 16; refine (h16.out _ tC).mono ?_; rintro e wo ⟨c2, kv, rfl, tO⟩)
              | (go_at_call 31; refine (h31.out _ (hSb.out _ _)).mono ?_; rintro e w3 ⟨rfl, tC, ot⟩; have m1 := hbo.out w3 _ ot.out))
            clear h16 h30 h31 h23 tO tP tC hS
            go_loopw [16, 18] (fun atv p wr => ∃ j : Nat, p = .int .i64 ((j : Int) - 1) ∧ j ≤ n + 1 ∧ firm ≤ j ∧ Hid (KO w c2 Db all firm i kv wr (.slice a1 n q) ∧ wr.ownsRow w.heap.size 103 2 (.slice a2 n2 q2) (kvL kv).length (cellsP (kvL kv))) ∧ ((atv = .int .i64 (-1) ∧ Hid (∀ x, j ≤ x → x ≤ n → kvL kv ≠ kvL (kvOf (all.take x)))) ∨ (atv = .int .i64 (j : Int) ∧ j ≤ n ∧ Hid (kvL kv = kvL (kvOf (all.take j)))))) (fun _ p _ => (intOf p + 1).toNat)
            case atStart => exact ⟨n + 1, by simp, Nat.le_refl _, by omega, tF, .inl ⟨rfl, fun x h1 h2 => by omega⟩⟩
            case round =>
              obtain ⟨j, rfl, hj1, hj2, tJ, hat⟩ := hrel
              clear tF
              rcases hat with ⟨rfl, hno⟩ | ⟨rfl, hj3, hyes⟩
              · rcases Nat.lt_or_ge firm j with hfj | hfj
                · obtain ⟨k, rfl⟩ : ∃ k, j = k + 1 := ⟨j - 1, by omega⟩
                  have ek : ((k + 1 : Nat) : Int) - 1 = (k : Int) := by omega
                  rw [ek]
                  have x1 : (firm : Int) ≤ (k : Int) := by omega
                  have x2 : (0 : Int) ≤ (k : Int) := by omega
                  have x3 : (k : Int) ≤ (q : Int) := by omega
                  have x4 : IntKind.i64.wrap ((k : Int) - 1) = (k : Int) - 1 := by simp [IntKind.wrap, IntKind.bits, IntKind.signed]; omega
                  have h33 : Hid (∀ W, Hid (KO w c2 Db all firm i kv W (.slice a1 n q) ∧ W.ownsRow w.heap.size 103 2 (.slice a2 n2 q2) (kvL kv).length (cellsP (kvL kv))) → Calls Tryz.prog 33 #[.slice a1 k q] W fun e w' => ∃ a3 n3 q3, e = .returned (.slice a3 n3 q3) ∧ Hid ((KO w c2 Db all firm i kv w' (.slice a1 n q) ∧ w'.ownsRow w.heap.size 103 2 (.slice a2 n2 q2) (kvL kv).length (cellsP (kvL kv))) ∧ w'.ownsRow w.heap.size 103 2 (.slice a3 n3 q3) (kvL (kvOf (all.take k))).length (cellsP (kvL (kvOf (all.take k)))))) := fun W h => (keeps_rfold h.out.1 h.out.2 (by omega) k (by omega)).mono fun e w' ⟨a3, n3, q3, e1, e2, e3⟩ => ⟨a3, n3, q3, e1, e2, e3⟩
                  by_cases hm : kvL kv = kvL (kvOf (all.take k))
                  · have h32 : Hid (∀ W u x, Hid ((KO w c2 Db all firm i kv W (.slice a1 n q) ∧ W.ownsRow w.heap.size 103 2 u (kvL kv).length (cellsP (kvL kv))) ∧ W.ownsRow w.heap.size 103 2 x (kvL (kvOf (all.take k))).length (cellsP (kvL (kvOf (all.take k))))) → Calls Tryz.prog 32 #[u, x] W fun e w' => e = .returned (.bool true) ∧ Hid (KO w c2 Db all firm i kv w' (.slice a1 n q) ∧ w'.ownsRow w.heap.size 103 2 u (kvL kv).length (cellsP (kvL kv)))) := fun W u x h => (keeps_same h.out.1 h.out.2 (by omega)).mono fun e w' ⟨e1, e2, e3⟩ => ⟨by rw [e1, decide_eq_true hm], e2, e3⟩
                    have hm : Hid _ := hm
                    clear hno ek
                    go_wp2_with (first
                      | (go_at_call 32; refine (h32.out _ _ _ tG).mono ?_; rintro e w7 ⟨rfl, tH⟩)
                      | (go_at_call 33; refine (h33.out _ tJ).mono ?_; rintro e w6 ⟨a3, n3, q3, rfl, tG⟩))
                    go_roundw
                    case rel => exact ⟨k, rfl, by omega, by omega, tH, .inr ⟨rfl, by omega, hm⟩⟩
                    case measure => simp
                  · have h32 : Hid (∀ W u x, Hid ((KO w c2 Db all firm i kv W (.slice a1 n q) ∧ W.ownsRow w.heap.size 103 2 u (kvL kv).length (cellsP (kvL kv))) ∧ W.ownsRow w.heap.size 103 2 x (kvL (kvOf (all.take k))).length (cellsP (kvL (kvOf (all.take k))))) → Calls Tryz.prog 32 #[u, x] W fun e w' => e = .returned (.bool false) ∧ Hid (KO w c2 Db all firm i kv w' (.slice a1 n q) ∧ w'.ownsRow w.heap.size 103 2 u (kvL kv).length (cellsP (kvL kv)))) := fun W u x h => (keeps_same h.out.1 h.out.2 (by omega)).mono fun e w' ⟨e1, e2, e3⟩ => ⟨by rw [e1, decide_eq_false hm], e2, e3⟩
                    have hno : Hid (∀ x, k ≤ x → x ≤ n → kvL kv ≠ kvL (kvOf (all.take x))) := fun x h1 h2 e => by
                      rcases Nat.lt_or_ge k x with h3 | h3
                      · exact hno.out x h3 h2 e
                      · have : x = k := by omega
                        rw [this] at e; exact hm e
                    clear hm ek
                    go_wp2_with (first
                      | (go_at_call 32; refine (h32.out _ _ _ tG).mono ?_; rintro e w7 ⟨rfl, tH⟩)
                      | (go_at_call 33; refine (h33.out _ tJ).mono ?_; rintro e w6 ⟨a3, n3, q3, rfl, tG⟩))
                    go_roundw
                    case rel => exact ⟨k, rfl, by omega, by omega, tH, .inl ⟨rfl, hno⟩⟩
                    case measure => simp
                · exfalso
                  obtain ⟨x, h1, h2, h3⟩ := keeps_ex tJ.out.1
                  exact hno.out x (by omega) (by have := hnl.out; omega) h3
              · have s6 : Hid (KR w c2 Db (all.take j) j (i + 1) wr a1 j q) := ⟨by rw [List.length_take]; have := hnl.out; omega, by omega, Nat.le_refl _, by omega, keeps_found tJ.out.1 hj3 hnl.out hyes.out⟩
                clear hyes tJ
                have y1 : ¬ ((j : Int) < 0) := by omega
                have y2 : (0 : Int) ≤ (j : Int) := by omega
                have y3 : (j : Int) ≤ (q : Int) := by omega
                rcases Nat.lt_or_ge firm j with hfj | hfj
                · have x1 : (firm : Int) ≤ (j : Int) - 1 := by omega
                  go_wp2
                  go_roundw
                  case rel => exact ⟨i + 1, by omega, by omega, by simp, c2, _, _, _, _, j, rfl, rfl, rfl, s6⟩
                  case measure => simp; omega
                · have x1 : ¬ (firm : Int) ≤ (j : Int) - 1 := by omega
                  go_wp2
                  go_roundw
                  case rel => exact ⟨i + 1, by omega, by omega, by simp, c2, _, _, _, _, j, rfl, rfl, rfl, s6⟩
                  case measure => simp; omega
        have n9 : (t == 9) = false := beq_eq_false_iff_ne.2 t9
        as_aux_lemma =>
          obtain ⟨E, hE0, hE1, hE2⟩ := keeps_put hS.out (by omega) okey oval
          obtain ⟨B, hB⟩ : ∃ B, K.broken = B := ⟨_, rfl⟩
          have h28 : Hid (∀ W, Hid (KS w N c Db mb S K all all firm i W (.slice a1 n q)) → Calls Tryz.prog 28 #[.pointer (some ⟨c, 0, none⟩)] W fun e w' => e = .returned (.bool B) ∧ w' = W) := fun W h => by rw [← hB]; exact keeps_broken h.out
          rw [hB] at hE0
          clear hB hpi hpks hPN hpl hpm hnum ht1
          by_cases e0 : E = 0
          · subst e0
            have hc18 : Hid (∀ W, Hid (KS w N c Db mb S K all all firm i W (.slice a1 n q)) → Calls Tryz.prog 18 #[.pointer (some ⟨c, 0, none⟩), .string okey, .string oval] W fun e w' => e = .returned (.int .i64 0) ∧ Hid (KI w c Db (all ++ [⟨okey, oval, false⟩]) all firm (i + 1) w' (.slice a1 n q)) ∧ Hid (Oth W w')) := fun W h => hE1 (.inl rfl) W _ h.out
            clear hE0 hE1 hE2
            go_wp2_with (first
              | (at_builtin; go_loud (refine wpList_append_src rfl _ _ 48 rfl w.heap.size 52 i52 (.agg #[.string ⟨#[]⟩, .string ⟨#[]⟩, .bool false]) 3 40 Tryz.underlying48 hi52 hz0 hz1 hz2 rfl (by decide) _ _ _ (W3R.alloc _) rfl [.string okey, .string oval, .bool false] (some ⟨w3.heap.size, 0, none⟩) 1 1 rfl rfl (fun _ => ⟨_, rfl, new_threek w3 okey oval false⟩) (by simp [Value.oneCell']) (by unfold maxLen; omega) (by omega) (by have := s3.out.bel.size; simp; omega) ?_; intro v4 w4 own4 grow4 loc4; clear loc4; obtain ⟨a4, c4, rfl⟩ := row_slice own4; have s4 := mk4 _ _ _ _ own4 grow4; clear own4 grow4))
              | (go_at_call 18; refine (hc18.out _ (hSb.out _ _)).mono ?_; rintro e w3 ⟨rfl, s3, ot⟩; obtain ⟨m1, m2, m3⟩ := hbx.out w3 _ _ _ _ ot.out; have W3R := s3.out.row; rw [← hnl.out] at W3R; have mk4 : ∀ (a4 : Option Addr) n4 c4 (w4 : World), w4.ownsRow w.heap.size 52 3 (.slice a4 n4 c4) (n + 1) (rowI all ++ [.string okey, .string oval, .bool false]) → (w3.alloc (.cells #[.string okey, .string oval, .bool false] 52)).grownBy w4 (Value.slice a1 n q).ownBlock → Hid (KR w c Db (all ++ [⟨okey, oval, false⟩]) firm (i + 1) w4 a4 n4 c4) := fun a4 n4 c4 w4 ho hg => keeps_app hnl.out hni hfn s3.out ho hg)
              | (go_at_call 28; refine (h28.out _ (hSb.out _ _)).mono ?_; rintro e wb ⟨rfl, eb⟩; rw [eb]; clear eb))
            go_roundw
            case rel => exact ⟨i + 1, by omega, by omega, by simp, c, _, _, _, _, firm, rfl, rfl, rfl, s4⟩
            case measure => simp; omega
          by_cases e23 : E = 23
          · subst e23
            obtain rfl := hE0 rfl
            have hc18 : Hid (∀ W, Hid (KS w N c Db mb S K all all firm i W (.slice a1 n q)) → Calls Tryz.prog 18 #[.pointer (some ⟨c, 0, none⟩), .string okey, .string oval] W fun e w' => e = .returned (.int .i64 23) ∧ Hid (KI w c Db (all ++ [⟨okey, oval, false⟩]) all firm (i + 1) w' (.slice a1 n q)) ∧ Hid (Oth W w')) := fun W h => hE1 (.inr rfl) W _ h.out
            clear hE0 hE1 hE2
            go_wp2_with (first
              | (at_builtin; go_loud (refine wpList_append_src rfl _ _ 48 rfl w.heap.size 52 i52 (.agg #[.string ⟨#[]⟩, .string ⟨#[]⟩, .bool false]) 3 40 Tryz.underlying48 hi52 hz0 hz1 hz2 rfl (by decide) _ _ _ (W3R.alloc _) rfl [.string okey, .string oval, .bool false] (some ⟨w3.heap.size, 0, none⟩) 1 1 rfl rfl (fun _ => ⟨_, rfl, new_threek w3 okey oval false⟩) (by simp [Value.oneCell']) (by unfold maxLen; omega) (by omega) (by have := s3.out.bel.size; simp; omega) ?_; intro v4 w4 own4 grow4 loc4; clear loc4; obtain ⟨a4, c4, rfl⟩ := row_slice own4; have s4 := mk4 _ _ _ _ own4 grow4; clear own4 grow4))
              | (go_at_call 18; refine (hc18.out _ (hSb.out _ _)).mono ?_; rintro e w3 ⟨rfl, s3, ot⟩; obtain ⟨m1, m2, m3⟩ := hbx.out w3 _ _ _ _ ot.out; have W3R := s3.out.row; rw [← hnl.out] at W3R; have mk4 : ∀ (a4 : Option Addr) n4 c4 (w4 : World), w4.ownsRow w.heap.size 52 3 (.slice a4 n4 c4) (n + 1) (rowI all ++ [.string okey, .string oval, .bool false]) → (w3.alloc (.cells #[.string okey, .string oval, .bool false] 52)).grownBy w4 (Value.slice a1 n q).ownBlock → Hid (KR w c Db (all ++ [⟨okey, oval, false⟩]) firm (i + 1) w4 a4 n4 c4) := fun a4 n4 c4 w4 ho hg => keeps_app hnl.out hni hfn s3.out ho hg)
              | (go_at_call 28; refine (h28.out _ (hSb.out _ _)).mono ?_; rintro e wb ⟨rfl, eb⟩; rw [eb]; clear eb))
            go_roundw
            case rel => exact ⟨i + 1, by omega, by omega, by simp, c, _, _, _, _, firm, rfl, rfl, rfl, s4⟩
            case measure => simp; omega
          have e0b : (E == 0) = false := beq_eq_false_iff_ne.2 e0
          have e23b : (E == 23) = false := beq_eq_false_iff_ne.2 e23
          have hc18 : Hid (∀ W, Hid (KS w N c Db mb S K all all firm i W (.slice a1 n q)) → Calls Tryz.prog 18 #[.pointer (some ⟨c, 0, none⟩), .string okey, .string oval] W fun e w' => e = .returned (.int .i64 E) ∧ Hid (KI w c Db all all firm (i + 1) w' (.slice a1 n q)) ∧ Hid (Oth W w')) := fun W h => hE2 (fun e => e.elim e0 e23) W _ h.out
          clear hE0 hE1 hE2
          clear e0 e23
          go_wp2_with (first
            | (go_at_call 18; refine (hc18.out _ (hSb.out _ _)).mono ?_; rintro e w3 ⟨rfl, s3, ot⟩; obtain ⟨m1, m2, m3⟩ := hbx.out w3 _ _ _ _ ot.out; have S5 : Hid (KR w c Db all firm (i + 1) w3 a1 n q) := ⟨hnl.out, by omega, hfn, hnq, s3.out⟩; clear s3)
            | (go_at_call 28; refine (h28.out _ (hSb.out _ _)).mono ?_; rintro e wb ⟨rfl, eb⟩; rw [eb]; clear eb))
          go_roundw
          case rel => exact ⟨i + 1, by omega, by omega, by simp, c, _, _, _, _, firm, rfl, rfl, rfl, S5⟩
          case measure => simp; omega
      · have g1 : (i : Int) < (LN : Int) := by omega
        have g3 : ¬ (i : Int) < 60 := by omega
        have g5 : decide ((i : Int) < 60) = false := decide_eq_false g3
        go_wp2
        go_ret
        exact ⟨rfl, hI.out.bel⟩
    · obtain rfl : i = LN := by omega
      go_wp2
      go_ret
      exact ⟨rfl, hI.out.bel⟩
end Go.Proofs.YtfmmholkeadejaaGreatDoor
