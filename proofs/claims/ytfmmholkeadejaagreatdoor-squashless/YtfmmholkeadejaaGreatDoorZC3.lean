/- CkLoad, CkGuard, CkOpen. -/
import Derived.Test.YtfmmholkeadejaaGreatDoorZC2
import Derived.Test.YtfmmholkeadejaaGreatDoorZC1
/- load (57) of segments that are right up to a torn end. -/
namespace Go.Proofs.YtfmmholkeadejaaGreatDoor
open Go.RowKit Go.Maps Go.WideMaps

def ldE (S : Dk) (nm : ByteArray) (L : List Sg) : Int := match L.getLast? with | some x => eachE S (fileB nm x.n) | none => 0
def ldS (S : Dk) (nm : ByteArray) (L : List Sg) : Dk := match L.getLast? with | some x => setS S (fileB nm x.n) | none => S
def ldK (nm : ByteArray) (L : List Sg) : Ck := ldC nm (L.flatMap Sg.cs) (L.map Sg.n)
theorem ldK_step (L : List Sg) (j : Nat) (x : Sg) (h : L[j]? = some x) : (L.take (j + 1)).flatMap Sg.cs = (L.take j).flatMap Sg.cs ++ x.cs ∧ (L.take (j + 1)).map Sg.n = (L.take j).map Sg.n ++ [x.n] := by
  rw [List.take_add_one, h]
  simp
theorem part_len (L : List Sg) (j : Nat) : ((L.take j).flatMap Sg.cs).length ≤ (L.flatMap Sg.cs).length := by
  conv => rhs; rw [← List.take_append_drop j L, List.flatMap_append, List.length_append]
  omega
theorem num_cells {w : World} {base : Nat} {v : Value} {ns : List Nat} {n : Nat} (h : w.ownsRow base 3 1 v n (segV ns)) (hn : n = ns.length) : ∃ a c, v = .slice a n c ∧ ∀ (i x : Nat), ns[i]? = some x → ∃ g, a = some ⟨g, 0, none⟩ ∧ base ≤ g ∧ g < w.heap.size ∧ (∃ cs fr, w.heap[g]? = some (Obj.cells cs 3 fr)) ∧ w.cell? ⟨g, i, none⟩ = some (.int .i64 (x : Int)) := by
  subst hn
  obtain ⟨a, c, rfl⟩ := row_slice h
  refine ⟨a, c, rfl, fun i x hx => ?_⟩
  rcases id h.2 with ⟨q, h0⟩ | ⟨g, cap, cur, q, hb, hg, _⟩
  · have := (List.getElem?_eq_some_iff.1 hx).1
    omega
  · simp only [Value.slice.injEq] at q
    obtain ⟨rfl, -, -⟩ := q
    have hc := h.cellAt i (by have := (List.getElem?_eq_some_iff.1 hx).1; omega)
    rw [segV, List.getElem?_map, hx] at hc
    exact ⟨g, rfl, hb, (Array.getElem?_eq_some_iff.1 hg).1, ⟨_, _, hg⟩, by simpa using hc⟩
/-- Changes in memory. -/
def ChsAt (w : World) (a : Option Addr) (cs : List Ch) : Prop := ∀ (i : Nat) (ch : Ch), cs[i]? = some ch → ∃ g, a = some ⟨g, 0, none⟩ ∧ (∃ ds fr, w.heap[g]? = some (Obj.cells ds 52 fr)) ∧ w.cell? ⟨g, i * 3, none⟩ = some (.string ch.k) ∧ w.cell? ⟨g, i * 3 + 1, none⟩ = some (.string ch.val) ∧ w.cell? ⟨g, i * 3 + 2, none⟩ = some (.bool ch.dead)
theorem rowC_at : ∀ (cs : List Ch) (i : Nat) (ch : Ch), cs[i]? = some ch → (rowC cs)[i * 3]? = some (.string ch.k) ∧ (rowC cs)[i * 3 + 1]? = some (.string ch.val) ∧ (rowC cs)[i * 3 + 2]? = some (.bool ch.dead)
  | [], i, ch, h => by simp at h
  | c :: cs, 0, ch, h => by
    simp at h
    subst h
    exact ⟨rfl, rfl, rfl⟩
  | c :: cs, i + 1, ch, h => by
    obtain ⟨h1, h2, h3⟩ := rowC_at cs i ch (by simpa using h)
    have e : ∀ k, (rowC (c :: cs))[k + 3]? = (rowC cs)[k]? := fun k => rfl
    exact ⟨by rw [show (i + 1) * 3 = i * 3 + 3 by omega, e, h1], by rw [show (i + 1) * 3 + 1 = i * 3 + 1 + 3 by omega, e, h2], by rw [show (i + 1) * 3 + 2 = i * 3 + 2 + 3 by omega, e, h3]⟩
theorem chs_of {w : World} {base : Nat} {v : Value} {cs : List Ch} (h : w.ownsRow base 52 3 v cs.length (rowC cs)) : ∃ a c, v = .slice a cs.length c ∧ ChsAt w a cs := by
  obtain ⟨a, c, rfl⟩ := row_slice h
  refine ⟨a, c, rfl, fun i ch hx => ?_⟩
  have hi := (List.getElem?_eq_some_iff.1 hx).1
  rcases id h.2 with ⟨q, h0⟩ | ⟨g, cap, cur, q, hb, hg, _⟩
  · omega
  · simp only [Value.slice.injEq] at q
    obtain ⟨rfl, -, -⟩ := q
    obtain ⟨r1, r2, r3⟩ := rowC_at cs i ch hx
    exact ⟨g, rfl, ⟨_, _, hg⟩, (h.cellAt (i * 3) (by omega)).trans r1, (h.cellAt (i * 3 + 1) (by omega)).trans r2, (h.cellAt (i * 3 + 2) (by omega)).trans r3⟩
theorem CUpd.cells {N : Lo} {c d mb : Nat} {sv : Value} {S : Dk} {K : Ck} {w w' : World} (ho : CaskOpen w N c d mb sv S K) (hu : CUpd N (Own2 c mb) w w') {g : Nat} {e : TypeId} (hg : ∃ ds fr, w.heap[g]? = some (Obj.cells ds e fr)) (he : e ≠ 28) (h1 : e ≠ 122) (h2 : e ≠ 128) (h3 : e ≠ 5) : w'.heap[g]? = w.heap[g]? := by
  obtain ⟨ds, fr, hg⟩ := hg
  obtain ⟨n1, n2⟩ := ho.notc e he
  refine hu.block g (Array.getElem?_eq_some_iff.1 hg).1 (fun q => ?_) (.inr ⟨ds, e, fr, hg, h1, h2, h3⟩)
  rcases q with rfl | rfl
  · exact n1 _ _ hg
  · exact n2 _ _ hg
theorem ChsAt.cupd {N : Lo} {c d mb : Nat} {sv : Value} {S : Dk} {K : Ck} {w w' : World} {a : Option Addr} {cs : List Ch} (h : ChsAt w a cs) (ho : CaskOpen w N c d mb sv S K) (hu : CUpd N (Own2 c mb) w w') : ChsAt w' a cs := fun i ch hi => by
  obtain ⟨g, e, hg, r1, r2, r3⟩ := h i ch hi
  have hs := CUpd.cells ho hu hg (by decide) (by decide) (by decide) (by decide)
  obtain ⟨ds, fr, hg⟩ := hg
  exact ⟨g, e, ⟨ds, fr, hs.trans hg⟩, (World.cell?_of_block hs).trans r1, (World.cell?_of_block hs).trans r2, (World.cell?_of_block hs).trans r3⟩
theorem CUpd.growR {N : Lo} {L : Nat → Prop} {w w1 w2 : World} {r : Option Nat} (h : CUpd N L w w1) (g : w1.grownBy w2 r) (hr : ∀ j, r = some j → w.heap.size ≤ j) : CUpd N L w w2 :=
  ⟨g.os.trans h.os, g.tape.trans h.tape, g.output.trans h.output, Nat.le_trans h.size g.size, fun k hk hl hc => (g.block k (Nat.lt_of_lt_of_le hk h.size) (fun e => by have := hr k e.symm; omega)).trans (h.block k hk hl hc)⟩
theorem recs_small {n : Nat} (h : n ≤ 16777215) : ((n : Nat) : Int) < 4611686018427387903 := by omega
theorem afact2 {j n : Nat} (h : j < n) (hl : n ≤ 256) : j + 1 ≤ maxLen ∧ (j + 1) * 8 ≤ 140737488355328 := by unfold maxLen; omega
theorem cs_le {L : List Sg} {x : Sg} (h : x ∈ L) : x.cs.length ≤ (L.flatMap Sg.cs).length := by
  induction L with
  | nil => cases h
  | cons y L ih =>
    rw [List.flatMap_cons, List.length_append]
    rcases List.mem_cons.1 h with rfl | h
    · omega
    · have := ih h; omega
set_option maxHeartbeats 1000000 in
set_option maxRecDepth 100000 in
theorem load_fresh (N : Lo) (c d mb : Nat) (S : Dk) (hon : S.on = true) (nm : ByteArray) (L : List Sg) (hL : listK S (nm ++ (⟨#[46]⟩ : ByteArray)) = L.map fun x => (fileB nm x.n).data.toList) (hln : L.length ≤ 256) (hseg : ∀ x ∈ L, SgOn S nm x) (hmany : (L.flatMap Sg.cs).length ≤ 16777215) (w : World) (h : CaskOpen w N c d mb (.slice none 0 0) S (ldC nm [] [])) (hN : N ≤ w.heap.size) (hT : Tab N w) :
    Calls Tryz.prog 57 #[.pointer (some ⟨c, 0, none⟩)] w fun e w' => e = .returned (.int .i64 (ldE S nm L)) ∧ (∃ sv, CaskOpen w' N c d mb sv (ldS S nm L) (ldK nm L) ∧ ∀ g, sv.ownBlock = some g → w.heap.size ≤ g) ∧ CUpd N (Own2 c mb) w w' := by
  have hnm : capOk nm = true := h.fine.nm
  obtain ⟨ln, hlen⟩ : ∃ ln, L.length = ln := ⟨_, rfl⟩
  have h261 : Hid (Calls Tryz.prog 261 #[.agg #[.pointer (some ⟨d, 0, none⟩), .string nm]] w fun e w' => ∃ a cp, e = .returned (.slice a ln cp) ∧ (∀ (i x : Nat), (L.map Sg.n)[i]? = some x → ∃ g, a = some ⟨g, 0, none⟩ ∧ (∃ cs fr, w'.heap[g]? = some (Obj.cells cs 3 fr)) ∧ w'.cell? ⟨g, i, none⟩ = some (.int .i64 (x : Int))) ∧ Below w.heap.size w w') := by
    refine (numbers_some N d S hon nm hnm (L.map Sg.n) (fun n hn => by
      obtain ⟨x, hx, rfl⟩ := List.mem_map.1 hn
      exact (hseg x hx).num) (by rw [hL, List.map_map]; rfl) (by rw [List.length_map]; exact hln) w h.disk hN hT).mono ?_
    rintro e w' ⟨v, rfl, hr, hB⟩
    obtain ⟨a, cp, rfl, hc⟩ := num_cells hr rfl
    rw [List.length_map, hlen]
    exact ⟨a, cp, rfl, fun i x hx => by obtain ⟨g, e, _, _, hg, hcl⟩ := hc i x hx; exact ⟨g, e, hg, hcl⟩, hB⟩
  have c0 : w.cell? ⟨c, 0, none⟩ = some (.iface 106 (.agg #[.pointer (some ⟨d, 0, none⟩), .string nm])) := h.holds.at 0 _ rfl
  have hmt1 := @meth_numbers
  have hmt2 := @meth_changes
  have hmt3 := @meth_settle
  have H0 : Hid (CaskOpen w N c d mb (.slice none 0 0) S (ldC nm [] [])) := h
  have HT : Hid (Tab N w) := hT
  clear h hT
  go_enter Tryz.func57, Tryz.ntmps57
  go_wp2_with (go_at_call 261; refine h261.out.mono ?_; rintro e w1 ⟨a, cp, rfl, hcs, b1⟩)
  have o1 : CaskOpen w1 N c d mb (.slice none 0 0) S (ldC nm [] []) := H0.out.dupd (DUpd.ofBelow b1) (H0.out.disk.below b1)
  obtain ⟨H1, hH1⟩ : ∃ H, w1.heap.size = H := ⟨_, rfl⟩
  have O1 : Hid (CaskOpen w1 N c d mb (.slice none 0 0) S (ldC nm [] [])) := o1
  have HH : Hid (w1.heap.size = H1) := hH1
  have HTW : Hid (∀ W, CUpd N (Own2 c mb) w1 W → Tab N W ∧ N ≤ W.heap.size) := fun W hu => by
    have hN1 : N ≤ w1.heap.size := Nat.le_trans hN b1.size
    refine ⟨(HT.out.on (b1.mono hN)).on (hu.below hN1 (fun i hi => ?_)), Nat.le_trans hN1 hu.size⟩
    rcases hi with rfl | rfl
    · exact o1.le
    · exact o1.guard2.2
  have U9 : Hid (w.heap.size ≤ H1) := HH.out ▸ b1.size
  have U0 : Hid (∀ W, CUpd N (Own2 c mb) w1 W → CUpd N (Own2 c mb) w W) := fun W hu => (CUpd.ofBelow b1).trans hu
  have K2 : Hid (∀ (W : World) (j x : Nat), CUpd N (Own2 c mb) w1 W → (L.map Sg.n)[j]? = some x → ∃ g, a = some ⟨g, 0, none⟩ ∧ W.cell? ⟨g, j, none⟩ = some (.int .i64 (x : Int))) := fun W j x hu hx => by
    obtain ⟨g, e, hg, hc⟩ := hcs j x hx
    exact ⟨g, e, (World.cell?_of_block (CUpd.cells o1 hu hg (by decide) (by decide) (by decide) (by decide))).trans hc⟩
  have KC : Hid (∀ (x : Sg) (W : World) sv K, x ∈ L → CaskOpen W N c d mb sv S K → CUpd N (Own2 c mb) w1 W → Calls Tryz.prog 259 #[.agg #[.pointer (some ⟨d, 0, none⟩), .string nm], .int .i64 (x.n : Int)] W fun e w' => ∃ a cp, e = .returned (.tuple #[.slice a x.cs.length cp, .int .i64 (tlE x.tl)]) ∧ ChsAt w' a x.cs ∧ Below W.heap.size W w') := fun x W sv K hx hW hu => by
    have hs := hseg x hx
    obtain ⟨f, hf, hb⟩ := hs.file
    refine (changes_some N d S hon nm hnm x.n hs.num.1 hs.num.2 f hf x.cs hs.oks x.tl (fun q => by rw [hs.torn q]; decide) hb W hW.disk (HTW.out W hu).2 (HTW.out W hu).1).mono ?_
    rintro e w' ⟨v, rfl, hr, hB⟩
    obtain ⟨a, cp, rfl, hc⟩ := chs_of hr
    exact ⟨a, cp, rfl, hc, hB⟩
  have KE : Hid (∀ x ∈ L, tlE x.tl = 0 ∨ tlE x.tl = 10) := fun x hx => (hseg x hx).err
  have KO : Hid (∀ x ∈ L, (∀ ch ∈ x.cs, ch.Ok) ∧ 1 ≤ x.n ∧ x.n ≤ 999999) := fun x hx => ⟨(hseg x hx).oks, (hseg x hx).num⟩
  have HL : Hid (L.length = ln) := hlen
  have HM : Hid ((L.flatMap Sg.cs).length ≤ 16777215) := hmany
  have Hln : Hid (ln ≤ 256) := hlen ▸ hln
  clear hcs b1 o1 hH1 hseg hL hnm hon hlen hln hmany h261 hN H0 HT c0
  go_loopw [15] (fun iv wr => ∃ j : Nat, j ≤ ln ∧ iv = .int .i64 (j : Int) ∧ (∃ sv, CaskOpen wr N c d mb sv S (ldC nm ((L.take j).flatMap Sg.cs) ((L.take j).map Sg.n)) ∧ (∀ g, sv.ownBlock = some g → H1 ≤ g)) ∧ CUpd N (Own2 c mb) w1 wr) (fun iv _ => ln - (intOf iv).toNat)
  case atStart => exact ⟨0, Nat.zero_le _, rfl, ⟨_, O1.out, fun g e => by cases e⟩, CUpd.refl _ _ _⟩
  case round =>
    obtain ⟨j, hj, rfl, ⟨sv, hO, hsv⟩, hU⟩ := hrel
    have hnj : ((L.take j).map Sg.n).length = j := by rw [List.length_map, List.length_take, HL.out]; exact Nat.min_eq_left hj
    obtain ⟨asv, csv, rfl⟩ : ∃ a c, sv = .slice a j c := by
      have q := hO.row
      obtain ⟨a, c, e⟩ := row_slice q
      refine ⟨a, c, e.trans ?_⟩
      show Value.slice a ((L.take j).map Sg.n).length c = _
      rw [hnj]
    have OJ : Hid (CaskOpen wr N c d mb (.slice asv j csv) S (ldC nm ((L.take j).flatMap Sg.cs) ((L.take j).map Sg.n))) := hO
    have UJ : Hid (CUpd N (Own2 c mb) w1 wr) := hU
    have SV : Hid (∀ g, (Value.slice asv j csv).ownBlock = some g → H1 ≤ g) := hsv
    by_cases hlt : j < ln
    · obtain ⟨x, hx⟩ : ∃ x, L[j]? = some x := ⟨_, List.getElem?_eq_getElem (HL.out.symm ▸ hlt)⟩
      have hxm : x ∈ L := List.mem_of_getElem? hx
      obtain ⟨e1, e2⟩ := ldK_step L j x hx
      obtain ⟨g, rfl, cg⟩ := K2.out wr j x.n hU (by rw [List.getElem?_map, hx]; rfl)
      have cc : wr.cell? ⟨c, 0, none⟩ = some (.iface 106 (.agg #[.pointer (some ⟨d, 0, none⟩), .string nm])) := hO.holds.at 0 _ rfl
      have k1 : Hid (Calls Tryz.prog 259 #[.agg #[.pointer (some ⟨d, 0, none⟩), .string nm], .int .i64 (x.n : Int)] wr fun e w' => ∃ a cp, e = .returned (.tuple #[.slice a x.cs.length cp, .int .i64 (tlE x.tl)]) ∧ ChsAt w' a x.cs ∧ Below wr.heap.size wr w') := KC.out x wr _ _ hxm hO hU
      have hE := KE.out x hxm
      have HX : Hid (L[j]? = some x) := hx
      have E1 : Hid ((L.take (j + 1)).flatMap Sg.cs = (L.take j).flatMap Sg.cs ++ x.cs) := e1
      have E2 : Hid ((L.take (j + 1)).map Sg.n = (L.take j).map Sg.n ++ [x.n]) := e2
      obtain ⟨lc, hlc⟩ : ∃ lc, x.cs.length = lc := ⟨_, rfl⟩
      have HC : Hid (x.cs.length = lc) := hlc
      have hlcs : Hid (lc ≤ 16777215) := hlc ▸ Nat.le_trans (cs_le hxm) HM.out
      have hW := wstep hlt (Nat.le_trans Hln.out (by decide))
      have g2 : (0 : Int) ≤ (j : Int) := Int.natCast_nonneg j
      have g3 : (j : Int) < (ln : Int) := Int.ofNat_lt.2 hlt
      rw [hlc] at k1
      have HXM : Hid (x ∈ L) := hxm
      generalize hEE : tlE x.tl = E at *
      clear hx e1 e2 hO hU hsv hlc hxm hEE
      have hE3 : ((E != 0) && (E != 10)) = false := by rcases hE with rfl | rfl <;> rfl
      rcases hE with rfl | rfl
      all_goals
        go_wp2_with (go_at_call 259; refine k1.out.mono ?_; rintro e w2 ⟨a2, c2, rfl, hch, b2⟩)
        have W2 : Hid (CaskOpen w2 N c d mb (.slice asv j csv) S (ldC nm ((L.take j).flatMap Sg.cs) ((L.take j).map Sg.n)) ∧ CUpd N (Own2 c mb) w1 w2) := ⟨OJ.out.dupd (DUpd.ofBelow b2) (OJ.out.disk.below b2), UJ.out.trans (CUpd.ofBelow b2)⟩
        have CH : Hid (ChsAt w2 a2 x.cs) := hch
        clear hch b2
        go_loopw [36] (fun iv wq => ∃ i : Nat, i ≤ lc ∧ iv = .int .i64 (i : Int) ∧ CaskOpen wq N c d mb (.slice asv j csv) S (ldC nm ((L.take j).flatMap Sg.cs ++ x.cs.take i) ((L.take j).map Sg.n)) ∧ CUpd N (Own2 c mb) w2 wq) (fun iv _ => lc - (intOf iv).toNat)
        case atStart => exact ⟨0, Nat.zero_le _, rfl, by simpa using W2.out.1, CUpd.refl _ _ _⟩
        case round =>
          obtain ⟨i, hi, rfl, hOq, hUq⟩ := hrel
          by_cases hil : i < lc
          · obtain ⟨ch, hch⟩ : ∃ ch, x.cs[i]? = some ch := ⟨_, List.getElem?_eq_getElem (HC.out.symm ▸ hil)⟩
            obtain ⟨g6, rfl, -, r1, r2, r3⟩ := (CH.out.cupd W2.out.1 hUq) i ch hch
            have hok : ch.Ok := (KO.out x HXM.out).1 ch (List.mem_of_getElem? hch)
            have hchl : ((L.take j).flatMap Sg.cs ++ x.cs.take i).length ≤ 16777214 := by
              have h1 := part_len L (j + 1)
              rw [E1.out] at h1
              have h2 := HM.out
              have h3 := HC.out
              simp only [List.length_append, List.length_take] at h1 ⊢
              omega
            have kt0 := take_some N c d mb (.slice asv j csv) S _ (chN ch) (chN_ok hok) (wr.alloc (.cells #[.string ch.k, .string ch.val, .bool ch.dead] 52)) (hOq.alloc _) (Nat.lt_of_le_of_lt (ldC_len _ _ _) (Nat.lt_of_le_of_lt hchl (by decide))) (recs_small (Nat.le_trans hchl (by decide)))
            rw [ldC_take, List.append_assoc] at kt0
            have htk : x.cs.take i ++ [ch] = x.cs.take (i + 1) := by rw [List.take_add_one, hch]; rfl
            rw [htk] at kt0
            have kt : Hid (Calls Tryz.prog 110 #[.pointer (some ⟨c, 0, none⟩), .agg #[.string ch.k, .string ch.val, .bool ch.dead]] (wr.alloc (.cells #[.string ch.k, .string ch.val, .bool ch.dead] 52)) fun e w' => e = .returned (.tuple #[]) ∧ CaskOpen w' N c d mb (.slice asv j csv) S (ldC nm ((L.take j).flatMap Sg.cs ++ x.cs.take (i + 1)) ((L.take j).map Sg.n)) ∧ CUpd N (Own2 c mb) wr w') := kt0.mono fun e w' ⟨q1, q2, q3⟩ => ⟨q1, q2, (CUpd.ofBelow ((Below.refl _ wr).alloc (Nat.le_refl _) _)).trans q3⟩
            have hD := holds_new wr [.string ch.k, .string ch.val, .bool ch.dead] 52
            have d0 := hD.at 0 _ rfl
            have d1 := hD.at 1 _ rfl
            have d2 := hD.at 2 _ rfl
            have UQ : Hid (CUpd N (Own2 c mb) w2 wr) := hUq
            have hWi := wstep hil (Nat.le_trans hlcs.out (by decide))
            have i2 : (0 : Int) ≤ (i : Int) := Int.natCast_nonneg i
            have i3 : (i : Int) < (lc : Int) := Int.ofNat_lt.2 hil
            generalize ch.k = kk at *
            generalize ch.val = vv at *
            generalize ch.dead = dd at *
            clear kt0 htk hok hchl hOq hUq hD hch
            go_wp2_with (go_at_call 110; refine kt.out.mono ?_; rintro e w5 ⟨rfl, o5, u5⟩)
            go_roundw
            case rel => exact ⟨i + 1, hil, by simp [hWi], o5, UQ.out.trans u5⟩
            case measure => simp [hWi]; omega
          · have hii : i = lc := Nat.le_antisymm hi (Nat.le_of_not_lt hil)
            subst hii
            have htl : x.cs.take i = x.cs := List.take_of_length_le (Nat.le_of_eq HC.out)
            rw [htl, ← E1.out] at hOq
            have hUq1 : CUpd N (Own2 c mb) w1 wr := W2.out.2.trans hUq
            have row6 : wr.ownsRow N 3 1 (.slice asv j csv) j (segV ((L.take j).map Sg.n)) := by
              have q := hOq.row
              have e : (ldC nm ((L.take (j + 1)).flatMap Sg.cs) ((L.take j).map Sg.n)).segs.length = j := hnj
              rw [e] at q
              exact q
            have c3 : wr.cell? ⟨c, 3, none⟩ = some (.slice asv j csv) := hOq.holds.at 3 _ rfl
            have hj16 : (ldC nm ((L.take (j + 1)).flatMap Sg.cs) ((L.take j).map Sg.n)).segs.length < 16777216 := by
              show ((L.take j).map Sg.n).length < _
              rw [hnj]
              exact Nat.lt_of_lt_of_le (Nat.lt_of_lt_of_le hlt Hln.out) (by decide)
            have KG : Hid (∀ (w7 : World) (v7 : Value), (wr.alloc (.cells #[.int .i64 (x.n : Int)] 3)).grownBy w7 (Value.slice asv j csv).ownBlock → w7.ownsRow N 3 1 v7 (j + 1) (segV ((L.take j).map Sg.n) ++ [.int .i64 (x.n : Int)]) →
                CaskOpen (w7.setCell ⟨c, 3, none⟩ v7) N c d mb v7 S (ldC nm ((L.take (j + 1)).flatMap Sg.cs) ((L.take (j + 1)).map Sg.n)) ∧ w7.cell? ⟨c, 3, none⟩ = some (.slice asv j csv) ∧ w7.frozen? ⟨c, 3, none⟩ = false ∧ CUpd N (Own2 c mb) w1 (w7.setCell ⟨c, 3, none⟩ v7)) := fun w7 v7 hg hr => by
              have hq := hOq.alloc (.cells #[.int .i64 (x.n : Int)] 3)
              obtain ⟨q1, q2, q3⟩ := hq.growL (sv' := v7) hg x.n (KO.out x HXM.out).2 hj16 (by
                show World.ownsRow _ _ _ _ _ (((L.take j).map Sg.n).length + 1) (segV ((L.take j).map Sg.n) ++ _)
                rw [hnj]; exact hr)
              refine ⟨?_, q2, q3, ?_⟩
              · rw [E2.out]; exact q1
              · refine CUpd.set (CUpd.growR (hUq1.trans (CUpd.ofBelow ((Below.refl _ wr).alloc (Nat.le_refl _) _))) hg (fun g e => ?_)) c 3 _ (.inl rfl)
                rw [HH.out]; exact SV.out g e
            have HN7 : Hid (∀ (k : Nat) (u : Value), [Value.int .i64 (x.n : Int)][k]? = some u → (wr.alloc (.cells #[.int .i64 (x.n : Int)] 3)).cell? ((⟨wr.heap.size, 0, none⟩ : Addr).add k) = some u) := World.news_of_block (heap_alloc_new wr _)
            have le7 : Hid (N ≤ (wr.alloc (.cells #[.int .i64 (x.n : Int)] 3)).heap.size) := le_alloc (HTW.out wr hUq1).2 _
            have leH : Hid (H1 ≤ (wr.alloc (.cells #[.int .i64 (x.n : Int)] 3)).heap.size) := le_alloc (HH.out ▸ hUq1.size) _
            have R6 : Hid (wr.ownsRow N 3 1 (.slice asv j csv) j (segV ((L.take j).map Sg.n))) := row6
            have hA1 : Hid (j + 1 ≤ maxLen) := (afact2 hlt Hln.out).1
            have hA2 : Hid ((j + 1) * 8 ≤ 140737488355328) := (afact2 hlt Hln.out).2
            obtain ⟨i3, f3, hz3, hs3, hb3⟩ := cinf3
            have F3 : Hid (Tryz.prog.info? 3 = some i3) := f3
            have FZ : Hid (i3.zero = some (.int .i64 0)) := hz3
            have FS : Hid (i3.size = 1) := hs3
            have FB : Hid (i3.bytes = 8) := hb3
            generalize segV ((L.take j).map Sg.n) = xs at *
            clear htl hOq hUq hUq1 row6 hj16 f3 hz3 hs3 hb3 hil hi hnj
            go_wp2_with (at_builtin; refine wpList_append_src rfl (.tmp 48) (.tmp 50) 26 rfl N 3 i3 (.int .i64 0) 1 8 Tryz.underlying26 F3.out FZ.out FS.out FB.out rfl (by decide) _ _ _ (R6.out.alloc _) rfl [.int .i64 (x.n : Int)] _ _ _ rfl rfl (fun _ => ⟨_, rfl, HN7.out⟩) (by intro u hu; simp at hu; subst hu; rfl) hA1.out hA2.out le7.out ?_; intro v7 w7 own7 gr7 at7; obtain ⟨a7, c7, rfl⟩ := row_slice own7; obtain ⟨q1, q2, q3, q4⟩ := KG.out _ _ gr7 own7; have Q1 : Hid _ := q1; have Q4 : Hid _ := q4; have AT : Hid _ := at7; clear q1 q4 at7 own7 gr7)
            go_roundw
            case rel =>
              refine ⟨j + 1, hlt, by simp [hW], ⟨_, Q1.out, fun g e => ?_⟩, Q4.out⟩
              rcases AT.out with q | q
              · exact SV.out g (q ▸ e)
              · rw [q] at e
                cases e
                exact leH.out
            case measure => simp [hW]; omega
    · have hjl : j = ln := Nat.le_antisymm hj (Nat.le_of_not_lt hlt)
      subst hjl
      have htk : L.take j = L := List.take_of_length_le (Nat.le_of_eq HL.out)
      rw [htk] at OJ hnj
      have OJ : Hid (CaskOpen wr N c d mb (.slice asv j csv) S (ldK nm L)) := OJ
      have c3 : wr.cell? ⟨c, 3, none⟩ = some (.slice asv j csv) := OJ.out.holds.at 3 _ rfl
      have c0 : wr.cell? ⟨c, 0, none⟩ = some (.iface 106 (.agg #[.pointer (some ⟨d, 0, none⟩), .string nm])) := OJ.out.holds.at 0 _ rfl
      rcases Nat.eq_zero_or_pos j with h0 | hpos
      · subst h0
        have hLn : L = [] := List.eq_nil_of_length_eq_zero HL.out
        have HF : Hid (ldE S nm L = 0 ∧ ldS S nm L = S) := by rw [hLn]; exact ⟨rfl, rfl⟩
        clear hLn htk hnj hO hU hsv hj hlt
        go_wp2
        go_ret
        exact ⟨by rw [HF.out.1]; rfl, ⟨_, by rw [HF.out.2]; exact OJ.out, fun g hg => Nat.le_trans U9.out (SV.out g hg)⟩, U0.out _ UJ.out⟩
      · obtain ⟨x, hx⟩ : ∃ x, L.getLast? = some x := by
          cases hq : L.getLast? with
          | none =>
            rw [List.getLast?_eq_none_iff] at hq
            have := HL.out
            rw [hq] at this
            simp at this
            omega
          | some x => exact ⟨x, rfl⟩
        have hnw : newN (ldK nm L) = x.n := by
          show (L.map Sg.n).getLastD 0 = x.n
          rw [List.getLastD_eq_getLast?, List.getLast?_map, hx]
          rfl
        have hxm : x ∈ L := List.mem_of_getLast? hx
        obtain ⟨n1, n2⟩ := (KO.out x hxm).2
        have HF : Hid (ldE S nm L = eachE S (fileB nm x.n) ∧ ldS S nm L = setS S (fileB nm x.n)) := by
          unfold ldE ldS
          rw [hx]
          exact ⟨rfl, rfl⟩
        have KW : Hid (∀ W, Below wr.heap.size wr W → Calls Tryz.prog 60 #[.pointer (some ⟨c, 0, none⟩)] W fun e w' => e = .returned (.int .i64 (x.n : Int)) ∧ Below wr.heap.size wr w') := fun W hW => by
          have q := newest_some N c d mb (.slice asv j csv) (ldK nm L) W (OJ.out.holds.below hW OJ.out.holds.lt) (row_below OJ.out.row hW) OJ.out.fine.many
          rw [hnw] at q
          exact q.mono fun _ _ ⟨q1, q2⟩ => ⟨q1, hW.trans (q2.mono hW.size)⟩
        have KS : Hid (∀ W, Below wr.heap.size wr W → Calls Tryz.prog 263 #[.agg #[.pointer (some ⟨d, 0, none⟩), .string nm], .int .i64 (x.n : Int)] W fun e w' => e = .returned (.int .i64 (eachE S (fileB nm x.n))) ∧ CaskOpen w' N c d mb (.slice asv j csv) (setS S (fileB nm x.n)) (ldK nm L) ∧ CUpd N (Own2 c mb) w1 w') := fun W hW => by
          have hu : CUpd N (Own2 c mb) w1 W := UJ.out.trans (CUpd.ofBelow hW)
          exact (settles_any N d S nm OJ.out.fine.nm x.n n1 n2 W (OJ.out.disk.below hW) (HTW.out W hu).2 (HTW.out W hu).1).mono fun _ _ ⟨q1, q2, q3⟩ => ⟨q1, OJ.out.dupd ((DUpd.ofBelow hW).trans q3) q2, hu.trans (CUpd.ofD q3)⟩
        have hcell : Hid (∀ W, Below wr.heap.size wr W → W.cell? ⟨c, 0, none⟩ = some (.iface 106 (.agg #[.pointer (some ⟨d, 0, none⟩), .string nm]))) := fun W hW => (OJ.out.holds.below hW OJ.out.holds.lt).at 0 _ rfl
        have B0 : Hid (Below wr.heap.size wr wr.drew) := (Below.refl _ _).drew
        have d0 := hcell.out _ B0.out
        have hj0 : ((j : Int) == 0) = false := beq_eq_false_iff_ne.2 (fun e => by omega)
        generalize eachE S (fileB nm x.n) = E at *
        generalize setS S (fileB nm x.n) = S2 at *
        generalize x.n = xn at *
        clear htk hnj hO hU hsv hj hlt hx hnw hxm n1 n2 K2 KC KE KO
        go_wp2_with fail
        go_region_with (first
          | (go_at_call 263; refine (KS.out _ b1).mono ?_; rintro e w3 ⟨rfl, o3, u3⟩)
          | (go_at_call 60; refine (KW.out _ B0.out).mono ?_; rintro e w2 ⟨rfl, b1⟩; have q0 := hcell.out _ b1))
        all_goals
          go_wp2
          go_ret
          exact ⟨by rw [HF.out.1]; rfl, ⟨_, by rw [HF.out.2]; exact o3, fun g hg => Nat.le_trans U9.out (SV.out g hg)⟩, U0.out _ u3⟩
theorem load_some (N : Lo) (c d mb : Nat) (S : Dk) (hon : S.on = true) (nm : ByteArray) (L : List Sg) (hL : listK S (nm ++ (⟨#[46]⟩ : ByteArray)) = L.map fun x => (fileB nm x.n).data.toList) (hln : L.length ≤ 256) (hseg : ∀ x ∈ L, SgOn S nm x) (hmany : (L.flatMap Sg.cs).length ≤ 16777215) (w : World) (h : CaskOpen w N c d mb (.slice none 0 0) S (ldC nm [] [])) (hN : N ≤ w.heap.size) (hT : Tab N w) :
    Calls Tryz.prog 57 #[.pointer (some ⟨c, 0, none⟩)] w fun e w' => e = .returned (.int .i64 (ldE S nm L)) ∧ (∃ sv, CaskOpen w' N c d mb sv (ldS S nm L) (ldK nm L)) ∧ CUpd N (Own2 c mb) w w' :=
  (load_fresh N c d mb S hon nm L hL hln hseg hmany w h hN hT).mono fun _ _ ⟨e1, ⟨sv, e2, _⟩, e3⟩ => ⟨e1, ⟨sv, e2⟩, e3⟩
end Go.Proofs.YtfmmholkeadejaaGreatDoor

/- One map more is guarded from a disk's calls. -/
namespace Go.Proofs.YtfmmholkeadejaaGreatDoor
open Go.RowKit Go.Maps Go.WideMaps

/-- The mark with one map more. -/
def Lo.with (N : Lo) (mb : Nat) : Lo := ⟨N.n, fun i => N.G i ∨ i = mb⟩
theorem MapAt.guard {w : World} {N : Lo} {mv : Value} {A : List UInt8 → Option Nat} (h : MapAt w N mv A) (mb : Nat) (hb : w.heap.size ≤ mb) : MapAt w (N.with mb) mv A := by
  rcases h with h | ⟨m, n, D, e, hN, hown, h1, h2⟩
  · exact .inl h
  · have := hown.lt
    exact .inr ⟨m, n, D, e, ⟨hN.1, fun g => by
      rcases g with g | g
      · exact hN.2 g
      · omega⟩, hown, h1, h2⟩
theorem MapAt.free {w : World} {N : Lo} {mv : Value} {A : List UInt8 → Option Nat} {mb : Nat} (h : MapAt w (N.with mb) mv A) : MapAt w N mv A := by
  rcases h with h | ⟨m, n, D, e, hN, hown, h1, h2⟩
  · exact .inl h
  · exact .inr ⟨m, n, D, e, ⟨hN.1, fun g => hN.2 (.inl g)⟩, hown, h1, h2⟩
theorem FilesAt.mark {w : World} {N M : Lo} {fs : Fs} {A : List UInt8 → Option Nat} {V : List UInt8 → Value} (h : FilesAt w N fs A V) (e : M.n = N.n) : FilesAt w M fs A V := by
  refine ⟨fun k f hk => ?_, h.gone, h.one, h.row⟩
  obtain ⟨b, h1, h2, h3, h4, h5⟩ := h.file k f hk
  exact ⟨b, h1, by rw [e]; exact h2, h3, by rw [e]; exact h4, h5⟩
/-- A disk, the map of a cask being made behind it. -/
theorem DiskAt.guard {w : World} {N : Lo} {d : Nat} {S : Dk} (h : DiskAt w N d S) (mb : Nat) (hb : w.heap.size ≤ mb) : DiskAt w (N.with mb) d S := by
  obtain ⟨mv, st, A, V, hH, hN, hM, hF, hS⟩ := h
  exact ⟨mv, st, A, V, hH, hN, hM.guard mb hb, hF.mark rfl, hS⟩
theorem DiskAt.free {w : World} {N : Lo} {d : Nat} {S : Dk} {mb : Nat} (h : DiskAt w (N.with mb) d S) : DiskAt w N d S := by
  obtain ⟨mv, st, A, V, hH, hN, hM, hF, hS⟩ := h
  exact ⟨mv, st, A, V, hH, hN, hM.free, hF.mark rfl, hS⟩
theorem DUpd.free {N : Lo} {mb : Nat} {w w' : World} (h : DUpd (N.with mb) w w') : DUpd N w w' :=
  ⟨h.os, h.tape, h.output, h.size, fun i hi hc => h.block i hi (hc.imp (fun q => q.imp id (fun ⟨g, r⟩ => ⟨.inl g, r⟩)) id)⟩
theorem CUpd.free {N : Lo} {L : Nat → Prop} {mb : Nat} {w w' : World} (h : CUpd (N.with mb) L w w') : CUpd N L w w' :=
  ⟨h.os, h.tape, h.output, h.size, fun i hi hl hc => h.block i hi hl (hc.imp (fun q => q.imp id (fun ⟨g, r⟩ => ⟨.inl g, r⟩)) id)⟩
/-- A new map of pairs. -/
theorem keys_made (w : World) : KeysAt (w.alloc (.map #[] 0)) w.heap.size [] := by
  refine ⟨0, .map [], World.ownsMap_made w Tryz.prog 9 pairElem, fun k => ?_, fun k => ?_⟩
  · rfl
  · rfl
end Go.Proofs.YtfmmholkeadejaaGreatDoor

/- Open (16) of segments that are right up to a torn end. -/
namespace Go.Proofs.YtfmmholkeadejaaGreatDoor
open Go.RowKit Go.Maps Go.WideMaps

theorem fine_new {nm : ByteArray} (h : capOk nm = true) : (ldC nm [] []).Fine where
  rise := List.Pairwise.nil
  nm := h
  segs := fun _ hn => by cases hn
  many := by show 0 ≤ 16777216; decide
  keys := fun _ hp => by cases hp
  size := by show 0 ≤ 16777216; decide
  recs := ⟨by show (0 : Int) ≤ 0; decide, by show (0 : Int) < 4611686018427387904; decide⟩
  left := ⟨by show (-4611686018427387904 : Int) < 0; decide, by show (0 : Int) < 4611686018427387904; decide⟩
  busy := fun h => by cases h
  live := fun h => absurd h (by show ¬ (0 : Int) < 0; decide)
/-- A cask that is made. -/
theorem cask_made {w : World} {N : Lo} {d : Nat} {S : Dk} {nm : ByteArray} (h : DiskAt w N d S) (hN : N ≤ w.heap.size) (hG : ∀ i, N.G i → i < w.heap.size) (hnm : capOk nm = true) :
    CaskOpen ((w.alloc (.map #[] 0)).alloc (.cells #[shV d nm, .map (some w.heap.size), .int .i64 0, .slice none 0 0, .int .i64 0, .bool false, .bool false] 28)) (N.with w.heap.size) (w.heap.size + 1) d w.heap.size (.slice none 0 0) S (ldC nm [] []) := by
  have hH := holds_new (w.alloc (.map #[] 0)) [shV d nm, .map (some w.heap.size), .int .i64 0, .slice none 0 0, .int .i64 0, .bool false, .bool false] 28
  rw [World.size_alloc] at hH
  refine ⟨hH, ?_, ⟨.inr rfl, hN⟩, fun i hi => ?_, ?_, World.ownsRow_nil _ _ _ _, ((h.guard w.heap.size (Nat.le_refl _)).alloc _).alloc _, fine_new hnm⟩
  · show N.n ≤ w.heap.size + 1
    exact Nat.le_succ_of_le hN
  · rw [World.size_alloc, World.size_alloc]
    rcases hi with hi | rfl
    · have := hG i hi; omega
    · omega
  · exact (keys_made w).same (((Below.refl (w.alloc (.map #[] 0)).heap.size (w.alloc (.map #[] 0))).alloc (Nat.le_refl _) _).block w.heap.size (by rw [World.size_alloc]; omega))
theorem made_below (w : World) (o o' : Obj) : Below w.heap.size w ((w.alloc o).alloc o') := ((Below.refl _ w).alloc (Nat.le_refl _) o).alloc (by rw [World.size_alloc]; omega) o'
theorem open_frame {w w2 w' : World} {N : Lo} {c mb : Nat} (hB : Below w.heap.size w w2) (hu : CUpd (N.with mb) (Own2 c mb) w2 w') (hc : w.heap.size ≤ c) (hm : w.heap.size ≤ mb) : DUpd N w w' :=
  ⟨hu.os.trans hB.os, hu.tape.trans hB.tape, hu.output.trans hB.output, Nat.le_trans hB.size hu.size, fun i hi hc' => by
    have e := hB.block i hi
    refine (hu.block i (Nat.lt_of_lt_of_le hi hB.size) (fun q => ?_) (hc'.imp (fun q => q.imp id (fun ⟨q1, es, k, q2⟩ => ⟨.inl q1, es, k, e.trans q2⟩)) (fun q => q.of e))).trans e
    rcases q with rfl | rfl
    · omega
    · omega⟩
def opV (E : Int) (c : Nat) : Value := if E = 0 then .pointer (some ⟨c, 0, none⟩) else .pointer none
set_option maxHeartbeats 1000000 in
set_option maxRecDepth 100000 in
theorem open_fresh (N : Lo) (d : Nat) (S : Dk) (hon : S.on = true) (nm : ByteArray) (hnm : capOk nm = true) (L : List Sg) (hL : listK S (nm ++ (⟨#[46]⟩ : ByteArray)) = L.map fun x => (fileB nm x.n).data.toList) (hln : L.length ≤ 256) (hseg : ∀ x ∈ L, SgOn S nm x) (hmany : (L.flatMap Sg.cs).length ≤ 16777215) (w : World) (h : DiskAt w N d S) (hN : N ≤ w.heap.size) (hT : Tab N w) (hG : ∀ i, N.G i → i < w.heap.size) :
    Calls Tryz.prog 16 #[.pointer (some ⟨d, 0, none⟩), .string nm] w fun e w' => ∃ c mb sv, e = .returned (.tuple #[opV (ldE S nm L) c, .int .i64 (ldE S nm L)]) ∧ CaskOpen w' (N.with mb) c d mb sv (ldS S nm L) (ldK nm L) ∧ (w.heap.size ≤ c ∧ w.heap.size ≤ mb ∧ ∀ g, sv.ownBlock = some g → w.heap.size ≤ g) ∧ DUpd N w w' := by
  have h36 : Hid (Calls Tryz.prog 36 #[.string nm, .int .i64 1] w fun e w' => e = .returned (.string (fileB nm 1)) ∧ Below w.heap.size w w') := file_ok N nm hnm 1 (by decide) (by decide) w hN hT
  have hne : (fileB nm 1).toList.isEmpty = false := emp_false (s := fileB nm 1) (by
    show (fileB nm 1).data.toList.length ≠ 0
    rw [fileB_list, List.length_append]
    simp [six])
  have h54 : Hid (∀ W, Below w.heap.size w W → Calls Tryz.prog 54 #[.pointer (some ⟨d, 0, none⟩)] W fun e w' => e = .returned (.bool true) ∧ w' = W) := fun W hW => by
    have q := on_some N d S W (h.below hW)
    rw [hon] at q
    exact q
  have h57 : Hid (∀ W, Below w.heap.size w W → Calls Tryz.prog 57 #[.pointer (some ⟨W.heap.size + 1, 0, none⟩)] ((W.alloc (.map #[] 0)).alloc (.cells #[shV d nm, .map (some W.heap.size), .int .i64 0, .slice none 0 0, .int .i64 0, .bool false, .bool false] 28)) fun e w' => e = .returned (.int .i64 (ldE S nm L)) ∧ (∃ sv, CaskOpen w' (N.with W.heap.size) (W.heap.size + 1) d W.heap.size sv (ldS S nm L) (ldK nm L) ∧ ∀ g, sv.ownBlock = some g → w.heap.size ≤ g) ∧ DUpd N w w') := fun W hW => by
    have hNW : N ≤ W.heap.size := Nat.le_trans hN hW.size
    have hc := cask_made (nm := nm) (h.below hW) hNW (fun i hi => Nat.lt_of_lt_of_le (hG i hi) hW.size) hnm
    have hB := made_below W (.map #[] 0) (.cells #[shV d nm, .map (some W.heap.size), .int .i64 0, .slice none 0 0, .int .i64 0, .bool false, .bool false] 28)
    refine (load_fresh (N.with W.heap.size) (W.heap.size + 1) d W.heap.size S hon nm L hL hln hseg hmany _ hc (Nat.le_trans hNW hB.size) ((hT.on (hW.mono hN)).on (hB.mono hNW))).mono ?_
    rintro e w' ⟨q1, ⟨sv, q2, q4⟩, q3⟩
    refine ⟨q1, ⟨sv, q2, fun g hg => Nat.le_trans (Nat.le_trans hW.size hB.size) (q4 g hg)⟩, open_frame (hW.trans (hB.mono hW.size)) q3 (Nat.le_succ_of_le hW.size) hW.size⟩
  unfold shV at h57
  have hv0 : ∀ c, opV 0 c = .pointer (some ⟨c, 0, none⟩) := fun c => by rw [opV, if_pos rfl]
  have hv1 : ∀ E c, E ≠ 0 → opV E c = .pointer none := fun E c h => by rw [opV, if_neg h]
  have HV0 : Hid (∀ c, opV 0 c = .pointer (some ⟨c, 0, none⟩)) := hv0
  have HV1 : Hid (∀ E c, E ≠ 0 → opV E c = .pointer none) := hv1
  clear hv0 hv1
  generalize ldE S nm L = E at *
  generalize ldS S nm L = S2 at *
  generalize ldK nm L = K2 at *
  generalize fileB nm 1 = F at *
  clear h hT hseg hmany hL hln hnm hon hN hG
  have hmm := @run_makeMap Tryz.prog
  by_cases hE : E = 0
  · subst hE
    go_enter Tryz.func16, Tryz.ntmps16
    go_wp2_with (first
      | (go_at_call 57; refine (h57.out w1 b1).mono ?_; rintro e w2 ⟨rfl, ⟨sv2, o2, f2⟩, u2⟩; have F2 : Hid (∀ g, sv2.ownBlock = some g → w.heap.size ≤ g) := f2; clear f2)
      | (go_at_call 54; refine (h54.out w1 b1).mono ?_; rintro e w3 ⟨rfl, hw3⟩; have hw3 := hw3.symm; subst hw3)
      | (go_at_call 36; refine h36.out.mono ?_; rintro e w1 ⟨rfl, b1⟩))
    go_ret2
    exact ⟨_, _, sv2, by rw [HV0.out]; rfl, o2, ⟨Nat.le_succ_of_le b1.size, b1.size, F2.out⟩, u2⟩
  · have hE1 : (E != 0) = true := by simpa using hE
    go_enter Tryz.func16, Tryz.ntmps16
    go_wp2_with (first
      | (go_at_call 57; refine (h57.out w1 b1).mono ?_; rintro e w2 ⟨rfl, ⟨sv2, o2, f2⟩, u2⟩; have F2 : Hid (∀ g, sv2.ownBlock = some g → w.heap.size ≤ g) := f2; clear f2)
      | (go_at_call 54; refine (h54.out w1 b1).mono ?_; rintro e w3 ⟨rfl, hw3⟩; have hw3 := hw3.symm; subst hw3)
      | (go_at_call 36; refine h36.out.mono ?_; rintro e w1 ⟨rfl, b1⟩))
    go_ret2
    exact ⟨_, _, sv2, by rw [HV1.out _ _ hE]; rfl, o2, ⟨Nat.le_succ_of_le b1.size, b1.size, F2.out⟩, u2⟩
theorem open_some (N : Lo) (d : Nat) (S : Dk) (hon : S.on = true) (nm : ByteArray) (hnm : capOk nm = true) (L : List Sg) (hL : listK S (nm ++ (⟨#[46]⟩ : ByteArray)) = L.map fun x => (fileB nm x.n).data.toList) (hln : L.length ≤ 256) (hseg : ∀ x ∈ L, SgOn S nm x) (hmany : (L.flatMap Sg.cs).length ≤ 16777215) (w : World) (h : DiskAt w N d S) (hN : N ≤ w.heap.size) (hT : Tab N w) (hG : ∀ i, N.G i → i < w.heap.size) :
    Calls Tryz.prog 16 #[.pointer (some ⟨d, 0, none⟩), .string nm] w fun e w' => ∃ c mb sv, e = .returned (.tuple #[opV (ldE S nm L) c, .int .i64 (ldE S nm L)]) ∧ CaskOpen w' (N.with mb) c d mb sv (ldS S nm L) (ldK nm L) ∧ (w.heap.size ≤ c ∧ w.heap.size ≤ mb) ∧ DUpd N w w' :=
  (open_fresh N d S hon nm hnm L hL hln hseg hmany w h hN hT hG).mono fun _ _ ⟨c, mb, sv, e1, e2, e3, e4⟩ => ⟨c, mb, sv, e1, e2, ⟨e3.1, e3.2.1⟩, e4⟩
end Go.Proofs.YtfmmholkeadejaaGreatDoor
