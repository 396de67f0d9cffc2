/- The document's Take (52) and Read (36). -/
import Derived.Deep.RegionHeld3
import Derived.Deep.QuietTactic
import Derived.BigQuiet
import Derived.Test.YtbmeflildmeecaaClRefMn
import Derived.Test.YtbmeflildmeecaaClBack
import Derived.Test.YtbmeflildmeecaaClRefNorm
namespace Go.Proofs.Ytbmeflildmeecaa
open Go.RowKit Go.Shelf Go.Sort Go.Lib Pk

instance (l : List Dt) : Decidable (Right l) := by unfold Right; infer_instance
theorem right_snoc {l : List Dt} {d : Dt} : Right (l ++ [d]) ↔ Right l ∧ 0 < d.2 ∧ ∀ e ∈ l, e.1 < d.1 := by
  unfold Right
  rw [List.pairwise_append]
  simp only [List.pairwise_cons, List.mem_append, List.mem_singleton]
  constructor
  · rintro ⟨⟨h1, _, h2⟩, h3⟩
    exact ⟨⟨h1, fun x hx => h3 x (.inl hx)⟩, h3 d (.inr rfl), fun e he => h2 e he d rfl⟩
  · rintro ⟨⟨h1, h2⟩, h3, h4⟩
    refine ⟨⟨h1, ⟨by simp, List.Pairwise.nil⟩, fun a ha b hb => by rw [hb]; exact h4 a ha⟩, fun x hx => ?_⟩
    rcases hx with q | q
    · exact h2 x q
    · rw [q]; exact h3
theorem right_last {l : List Dt} {e d : Dt} {i : Nat} (hl : l.length = i + 1) (he : l[i]? = some e) (hR : Right l) (h : e.1 < d.1) : ∀ x ∈ l, x.1 < d.1 := fun x hx => by
  obtain ⟨j, hj, rfl⟩ := List.getElem_of_mem hx
  rcases Nat.lt_or_ge j i with g | g
  · have := List.pairwise_iff_getElem.1 hR.1 j i hj (by omega) g
    rw [List.getElem?_eq_getElem (by omega)] at he
    rw [← Option.some.inj he] at h
    exact Nat.lt_trans this h
  · obtain rfl : j = i := by omega
    rw [List.getElem?_eq_getElem (by omega)] at he
    rw [← Option.some.inj he] at h
    exact h
theorem rdDots_step (k : Nat) (st : ByteArray × Int) : (rdDots (k + 1) st).1 = (rdDots k st).1 ++ [((rdN (rdDots k st).2).1, (rdN (rdN (rdDots k st).2).2).1)] ∧ (rdDots (k + 1) st).2 = (rdN (rdN (rdDots k st).2).2).2 := ⟨rfl, rfl⟩
def tkS (s : ByteArray) : ByteArray × Int := (rdDots (mnV s 2) (rdMany s)).2
def tkB (s : ByteArray) : Bool := decide ((tkS s).2 = 0 ∧ Right (readL s))
def tkV (s : ByteArray) : List Dt := if tkB s then readL s else []
def TakeR (b : Nat) (s : ByteArray) (w : World) (e : Ending) (w' : World) : Prop := ∃ a cap, e = .returned (.tuple #[.slice a (tkV s).length cap, .bool (tkB s)]) ∧ Clk (From w.heap.size w') w' (.slice a (tkV s).length cap) (tkV s) ∧ Sim w' b (tkS s) ∧ Upd b w w'
theorem Upd.grownR {b : Nat} {w w1 w2 : World} {r : Option Nat} (h : Upd b w w1) (g : w1.grownBy w2 r) (hr : ∀ j, r = some j → w.heap.size ≤ j) : Upd b w w2 :=
  ⟨g.os.trans h.os, g.tape.trans h.tape, g.output.trans h.output, Nat.le_trans h.size g.size, fun k hk hb => (g.block k (Nat.lt_of_lt_of_le hk h.size) (fun e => by have := hr k e.symm; omega)).trans (h.block k hk hb)⟩
theorem Sim.upd {w w' : World} {b : Nat} {st : ByteArray × Int} (h : Sim w b st) (hb : w'.heap[b]? = w.heap[b]?) : Sim w' b st := by
  obtain ⟨E, h1, h2, h3⟩ := h
  refine ⟨E, h1, ?_, h3⟩
  unfold Rq Holds at h2 ⊢
  rw [hb]
  exact h2
theorem Sim.lt {w : World} {b : Nat} {st : ByteArray × Int} (h : Sim w b st) : b < w.heap.size := by
  obtain ⟨E, h1, h2, h3⟩ := h
  exact Holds.lt h2
theorem Sim.no33 {w : World} {b : Nat} {st : ByteArray × Int} (h : Sim w b st) : ∀ cs fr, w.heap[b]? ≠ some (.cells cs 33 fr) := fun cs fr e => by
  obtain ⟨E, h1, h2, h3⟩ := h
  unfold Rq Holds at h2
  rw [h2] at e
  cases e
theorem Sim.grownR {w w' : World} {b m n : Nat} {v : Value} {xs : List Value} {st : ByteArray × Int} (h : Sim w b st) (g : w.grownBy w' v.ownBlock) (ho : w.ownsRow m 33 2 v n xs) (hbm : b < m) : Sim w' b st :=
  h.upd (g.block b h.lt (fun e => by have := own_base ho b e.symm; omega))
theorem afacts {i k : Nat} (h : i < k) (h2 : k ≤ 549755813888) : i + 1 ≤ maxLen ∧ (i + 1) * 16 ≤ 140737488355328 := by unfold maxLen; omega
theorem wfact {i k : Nat} (h : i < k) (h2 : k ≤ 549755813888) : wrap64 ((i : Int) + 1) = (i : Int) + 1 := by unfold wrap64; omega
theorem small_of {j k : Nat} (h : j + 1 < k) (h2 : k ≤ 549755813888) : j < 9223372036854775807 := by omega
theorem wrapj {j : Nat} (h : j < 9223372036854775807) : IntKind.i64.wrap ((j : Int) + 1 - 1) = (j : Int) := by simp [IntKind.wrap, IntKind.bits, IntKind.signed]; omega
theorem jfacts {j : Nat} (h : j < 9223372036854775807) : (0 : Int) ≤ (j : Int) ∧ (j : Int) < (j : Int) + 1 ∧ IntKind.i64.wrap ((j : Int) + 1 - 1) = (j : Int) ∧ wrap64 (j : Int) = (j : Int) ∧ (0 : Int) < (j : Int) + 1 := ⟨by omega, by omega, wrapj h, wrap64_small (by omega), by omega⟩
set_option maxRecDepth 100000 in
set_option maxHeartbeats 2000000 in
theorem take_any (b : Nat) (s : ByteArray) (hs : s.size ≤ 549755813888) (w : World) (hr : Rq w b s 0) : Calls Try.prog 52 #[.pointer (some ⟨b, 0, none⟩)] w (TakeR b s w) := by
  obtain ⟨i0, hi0, hz0, hz1, hz2⟩ := info_parts info33
  have F33 : Hid (Try.prog.info? 33 = some i0) := hi0
  clear hi0
  have h67 := rmany_two b s (by omega) w hr
  have hk := mnV_le s
  have hRL : Hid (readL s = (rdDots (mnV s 2) (rdMany s)).1) := rfl
  have hTS : Hid (tkS s = (rdDots (mnV s 2) (rdMany s)).2) := rfl
  have hN : Hid (∀ st W, Sim W b st → Calls Try.prog 68 #[.pointer (some ⟨b, 0, none⟩)] W fun e w' => e = .returned (.int .u64 ((rdN st).1 : Int)) ∧ Sim w' b (rdN st).2 ∧ Upd b W w') := fun st W h => rnum_sim b st W h
  have hbw : b < w.heap.size := Holds.lt hr
  obtain ⟨st0, hst0⟩ : ∃ st0, rdMany s = st0 := ⟨_, rfl⟩
  obtain ⟨k, hkk⟩ : ∃ k, mnV s 2 = k := ⟨_, rfl⟩
  rw [hst0, hkk] at h67 hRL hTS
  rw [hkk] at hk
  clear hst0 hkk
  obtain ⟨m, hm⟩ : ∃ m, w.heap.size = m := ⟨_, rfl⟩
  have Bm : b < m := hm ▸ hbw
  go_enter Try.func52, Try.ntmps52
  go_wp2_with (go_at_call 67; refine h67.mono ?_; rintro e w1 ⟨rfl, S1, u1⟩)
  go_loopw [5, 6, 7] (fun cv rv iv wr => ∃ i : Nat, i ≤ k ∧ iv = .int .i64 (i : Int) ∧ wr.ownsRow m 33 2 cv i (cellsD (rdDots i st0).1) ∧ rv = .bool (decide (Right (rdDots i st0).1)) ∧ Sim wr b (rdDots i st0).2 ∧ Upd b w wr) (fun _ _ iv _ => k - (intOf iv).toNat)
  case atStart => exact ⟨0, by omega, rfl, World.ownsRow_nil _ _ _ _, rfl, S1, u1⟩
  case round =>
    obtain ⟨i, hi, rfl, hown, rfl, hS, hU⟩ := hrel
    rcases Nat.lt_or_ge i k with hlt | hge
    · have hlen : (rdDots i st0).1.length = i := rdDots_len i st0
      have hrow : Hid (∀ W, W.ownsRow m 33 2 u5 i (cellsD (rdDots i st0).1) → Clk (From m W) W u5 (rdDots i st0).1) := fun W h => own_clk (by rw [hlen]; exact h)
      obtain ⟨a5, c5, rfl, -⟩ := id (hrow.out _ hown)
      rw [hlen] at hown hrow ⊢
      obtain ⟨l, hl⟩ : ∃ l, (rdDots i st0).1 = l := ⟨_, rfl⟩
      obtain ⟨st, hst⟩ : ∃ st, (rdDots i st0).2 = st := ⟨_, rfl⟩
      rw [hl] at hown hrow hlen
      rw [hst] at hS
      simp only [hl]
      have n1 := hN.out st wr hS
      obtain ⟨p, hp⟩ : ∃ p, (rdN st).1 = p := ⟨_, rfl⟩
      obtain ⟨st1, hst1⟩ : ∃ x, (rdN st).2 = x := ⟨_, rfl⟩
      rw [hp, hst1] at n1
      have n2 : Hid (∀ W, Sim W b st1 → Calls Try.prog 68 #[.pointer (some ⟨b, 0, none⟩)] W fun e w' => e = .returned (.int .u64 ((rdN st1).1 : Int)) ∧ Sim w' b (rdN st1).2 ∧ Upd b W w') := hN.out st1
      obtain ⟨q, hq⟩ : ∃ q, (rdN st1).1 = q := ⟨_, rfl⟩
      obtain ⟨st2, hst2⟩ : ∃ x, (rdN st1).2 = x := ⟨_, rfl⟩
      rw [hq, hst2] at n2
      have HL : Hid ((rdDots i st0).1 ++ [((rdN (rdDots i st0).2).1, (rdN (rdN (rdDots i st0).2).2).1)] = l ++ [(p, q)]) := by rw [hl, hst, hp, hst1, hq]; exact rfl
      have HS : Hid ((rdN (rdN (rdDots i st0).2).2).2 = st2) := by rw [hst, hst1, hst2]; exact rfl
      have N1 : Hid (Calls Try.prog 68 #[.pointer (some ⟨b, 0, none⟩)] wr fun e w' => e = .returned (.int .u64 (p : Int)) ∧ Sim w' b st1 ∧ Upd b wr w') := n1
      clear n1 hl hst hp hst1 hq hst2 hN
      have f1 := right_snoc (l := l) (d := (p, q))
      generalize hR : decide (Right l) = R at *
      go_wp2_with (first
        | (go_at_call 68; refine (n2.out w2 S2).mono ?_; rintro e w3 ⟨rfl, S3, u3⟩)
        | (go_at_call 68; refine N1.out.mono ?_; rintro e w2 ⟨rfl, S2, u2'⟩))
      have own3 := (own_upd (own_upd hown u2' hS.no33) u3 S2.no33).alloc (.cells #[.int .u64 (p : Int), .int .u64 (q : Int)] 33)
      have hD := holds_new w3 [.int .u64 (p : Int), .int .u64 (q : Int)] 33
      have dx0 := hD.at 0 _ rfl
      have dx1 := hD.at 1 _ rfl
      have OWN4 : Hid (∀ nq, (((w3.alloc (.cells #[.int .u64 (p : Int), .int .u64 (q : Int)] 33)).drewN nq).alloc (.cells #[.int .u64 (p : Int), .int .u64 (q : Int)] 33)).ownsRow m 33 2 (.slice a5 i c5) i (cellsD l)) := fun nq => (show ((w3.alloc (.cells #[.int .u64 (p : Int), .int .u64 (q : Int)] 33)).drewN nq).ownsRow m 33 2 (.slice a5 i c5) i (cellsD l) from own3).alloc _
      have HN : Hid (∀ nq, ∀ (j : Nat) (u : Value), [Value.int .u64 (p : Int), .int .u64 (q : Int)][j]? = some u → (((w3.alloc (.cells #[.int .u64 (p : Int), .int .u64 (q : Int)] 33)).drewN nq).alloc (.cells #[.int .u64 (p : Int), .int .u64 (q : Int)] 33)).cell? ((⟨w3.heap.size + 1, 0, none⟩ : Addr).add j) = some u) := fun nq j u hu => by
        have h0 := World.news_of_block (heap_alloc_new ((w3.alloc (.cells #[.int .u64 (p : Int), .int .u64 (q : Int)] 33)).drewN nq) (.cells #[.int .u64 (p : Int), .int .u64 (q : Int)] 33)) j u hu
        have e0 : ((w3.alloc (.cells #[.int .u64 (p : Int), .int .u64 (q : Int)] 33)).drewN nq).heap.size = w3.heap.size + 1 := by show (w3.alloc (.cells #[.int .u64 (p : Int), .int .u64 (q : Int)] 33)).heap.size = _; simp
        rw [e0] at h0
        exact h0
      have B4 : ∀ nq, Below w3.heap.size w3 (((w3.alloc (.cells #[.int .u64 (p : Int), .int .u64 (q : Int)] 33)).drewN nq).alloc (.cells #[.int .u64 (p : Int), .int .u64 (q : Int)] 33)) := fun nq => (show Below w3.heap.size w3 ((w3.alloc (.cells #[.int .u64 (p : Int), .int .u64 (q : Int)] 33)).drewN nq) from ⟨(below_alloc w3 (.cells #[.int .u64 (p : Int), .int .u64 (q : Int)] 33)).os, (below_alloc w3 (.cells #[.int .u64 (p : Int), .int .u64 (q : Int)] 33)).tape, (below_alloc w3 (.cells #[.int .u64 (p : Int), .int .u64 (q : Int)] 33)).output, (below_alloc w3 (.cells #[.int .u64 (p : Int), .int .u64 (q : Int)] 33)).size, (below_alloc w3 (.cells #[.int .u64 (p : Int), .int .u64 (q : Int)] 33)).block⟩).alloc (by show w3.heap.size ≤ (w3.alloc (.cells #[.int .u64 (p : Int), .int .u64 (q : Int)] 33)).heap.size; simp) _
      have U4H : Hid (∀ nq, Upd b w (((w3.alloc (.cells #[.int .u64 (p : Int), .int .u64 (q : Int)] 33)).drewN nq).alloc (.cells #[.int .u64 (p : Int), .int .u64 (q : Int)] 33))) := fun nq => (hU.trans (u2'.trans u3)).trans (Upd.ofBelow (B4 nq))
      have S4H : Hid (∀ nq, Sim (((w3.alloc (.cells #[.int .u64 (p : Int), .int .u64 (q : Int)] 33)).drewN nq).alloc (.cells #[.int .u64 (p : Int), .int .u64 (q : Int)] 33)) b st2) := fun nq => S3.upd ((B4 nq).block b S3.lt)
      have hcl := hrow.out (w3.alloc (.cells #[.int .u64 (p : Int), .int .u64 (q : Int)] 33)) own3
      have hk2 : k ≤ 549755813888 := Nat.le_trans hk hs
      have hW1 : wrap64 ((i : Int) + 1) = (i : Int) + 1 := wfact hlt hk2
      have hA1 : Hid (i + 1 ≤ maxLen) := (afacts hlt hk2).1
      have hA2 : Hid ((i + 1) * 16 ≤ 140737488355328) := (afacts hlt hk2).2
      clear u2' u3 S2 S3 hown hS hU N1 n2 hrow B4
      by_cases hq0 : q = 0
      · have hq0b : ((q : Int) == 0) = true := by simp [hq0]
        have hflag : Hid (decide (Right (l ++ [(p, q)])) = false) := decide_eq_false (fun h => by have : 0 < q := (f1.1 h).2.1; omega)
        clear f1 hcl hR
        clear hq0 own3 hD hlen h67 hk hk2 hs
        go_quiet (fail)
        have own4 := OWN4.out nq
        have U4 := U4H.out nq
        have S4 := S4H.out nq
        have le4 : m ≤ (((w3.alloc (.cells #[.int .u64 (p : Int), .int .u64 (q : Int)] 33)).drewN nq).alloc (.cells #[.int .u64 (p : Int), .int .u64 (q : Int)] 33)).heap.size := hm ▸ U4.size
        go_wp2_with (first
          | (at_builtin; refine wpList_append_src rfl (.tmp 39) (.tmp 41) 28 rfl m 33 i0 (.agg #[.int .u64 0, .int .u64 0]) 2 16 Try.underlying28 F33.out hz0 hz1 hz2 rfl (by omega) _ _ _ own4 rfl [.int .u64 (p : Int), .int .u64 (q : Int)] _ _ _ rfl rfl (fun _ => ⟨_, rfl, HN.out nq⟩) (by intro u hu; simp at hu; rcases hu with rfl | rfl <;> rfl) hA1.out hA2.out le4 ?_; intro v5 w5 own5 gr5 at5))
        go_roundw
        case rel =>
          refine ⟨i + 1, hlt, by simp [hW1], ?_, ?_, ?_, U4.grownR gr5 (fun j' e => hm.symm ▸ own_base own4 j' e)⟩
          · rw [(rdDots_step i st0).1, HL.out, cellsD_append]
            exact own5
          · rw [(rdDots_step i st0).1, HL.out, hflag.out]
          · rw [(rdDots_step i st0).2, HS.out]
            exact S4.grownR gr5 own4 Bm
        case measure => simp [hW1]; omega
      · have hq0b : ((q : Int) == 0) = false := beq_eq_false_iff_ne.2 (by omega)
        rcases Nat.eq_zero_or_pos i with hi0 | hi0
        · subst hi0
          have hl0 : l = [] := List.eq_nil_of_length_eq_zero hlen
          have hflag : Hid (decide (Right (l ++ [(p, q)])) = R) := by
            rw [← hR, hl0]
            have h1 : Right [(p, q)] := ⟨by simp, by simp; omega⟩
            have h2 : Right ([] : List Dt) := ⟨by simp, by simp⟩
            rw [List.nil_append, decide_eq_true h1, decide_eq_true h2]
            exact rfl
          clear f1 hcl hR hl0
          clear hq0 own3 hD hlen h67 hk hk2 hs
          go_quiet (fail)
          have own4 := OWN4.out nq
          have U4 := U4H.out nq
          have S4 := S4H.out nq
          have le4 : m ≤ (((w3.alloc (.cells #[.int .u64 (p : Int), .int .u64 (q : Int)] 33)).drewN nq).alloc (.cells #[.int .u64 (p : Int), .int .u64 (q : Int)] 33)).heap.size := hm ▸ U4.size
          go_wp2_with (first
            | (at_builtin; refine wpList_append_src rfl (.tmp 39) (.tmp 41) 28 rfl m 33 i0 (.agg #[.int .u64 0, .int .u64 0]) 2 16 Try.underlying28 F33.out hz0 hz1 hz2 rfl (by omega) _ _ _ own4 rfl [.int .u64 (p : Int), .int .u64 (q : Int)] _ _ _ rfl rfl (fun _ => ⟨_, rfl, HN.out nq⟩) (by intro u hu; simp at hu; rcases hu with rfl | rfl <;> rfl) hA1.out hA2.out le4 ?_; intro v5 w5 own5 gr5 at5))
          go_roundw
          case rel =>
            refine ⟨0 + 1, hlt, by simp, ?_, ?_, ?_, U4.grownR gr5 (fun j' e => hm.symm ▸ own_base own4 j' e)⟩
            · rw [(rdDots_step 0 st0).1, HL.out, cellsD_append]
              exact own5
            · rw [(rdDots_step 0 st0).1, HL.out, hflag.out]
            · rw [(rdDots_step 0 st0).2, HS.out]
              exact S4.grownR gr5 own4 Bm
          case measure => simp; omega
        · obtain ⟨j, rfl⟩ : ∃ j, i = j + 1 := Nat.exists_eq_succ_of_ne_zero (Nat.pos_iff_ne_zero.1 hi0)
          obtain ⟨z, hz⟩ : ∃ z, l[j]? = some z := ⟨_, List.getElem?_eq_getElem (by rw [hlen]; exact Nat.lt_succ_self j)⟩
          obtain ⟨_, _, e9, hrw⟩ := hcl
          simp only [Value.slice.injEq] at e9
          obtain ⟨rfl, -, rfl⟩ := e9
          obtain ⟨g, o, rfl, hg, hrw⟩ := hrw (by intro e; rw [e] at hlen; simp at hlen)
          obtain ⟨z1, -⟩ := hrw j z hz
          have hlast := @right_last l z (p, q) j hlen hz
          have hW2 : wrap64 ((j : Int) + 1 + 1) = (j : Int) + 1 + 1 := wfact hlt hk2
          clear hW1
          obtain ⟨j1, j2, j3, j4, j5⟩ := jfacts (small_of hlt hk2)
          have hmem : z ∈ l := List.mem_of_getElem? hz
          clear hrw hz
          by_cases hzp : z.1 < p
          · have hflag : Hid (decide (Right (l ++ [(p, q)])) = R) := by
              rw [← hR]
              exact decide_eq_decide.2 ⟨fun h => (f1.1 h).1, fun h => f1.2 ⟨h, Nat.pos_of_ne_zero hq0, hlast h hzp⟩⟩
            have hzp' : ¬ (p : Int) ≤ (z.1 : Int) := fun h => absurd (Int.ofNat_le.1 h) (Nat.not_le.2 hzp)
            clear f1 hR hlast
            have j7 : decide ((0 : Int) < (j : Int) + 1) = true := decide_eq_true j5
            have j8 : decide ((p : Int) ≤ (z.1 : Int)) = false := decide_eq_false hzp'
            have j9 : decide (p ≤ z.1) = false := decide_eq_false (Nat.not_le.2 hzp)
            clear hq0 own3 hD hg hlen h67 hk hk2 hs
            go_quiet (fail)
            have own4 := OWN4.out nq
            have U4 := U4H.out nq
            have S4 := S4H.out nq
            have le4 : m ≤ (((w3.alloc (.cells #[.int .u64 (p : Int), .int .u64 (q : Int)] 33)).drewN nq).alloc (.cells #[.int .u64 (p : Int), .int .u64 (q : Int)] 33)).heap.size := hm ▸ U4.size
            go_wp2_with (first
              | (at_builtin; refine wpList_append_src rfl (.tmp 39) (.tmp 41) 28 rfl m 33 i0 (.agg #[.int .u64 0, .int .u64 0]) 2 16 Try.underlying28 F33.out hz0 hz1 hz2 rfl (by omega) _ _ _ own4 rfl [.int .u64 (p : Int), .int .u64 (q : Int)] _ _ _ rfl rfl (fun _ => ⟨_, rfl, HN.out nq⟩) (by intro u hu; simp at hu; rcases hu with rfl | rfl <;> rfl) hA1.out hA2.out le4 ?_; intro v5 w5 own5 gr5 at5))
            go_roundw
            case rel =>
              refine ⟨(j + 1) + 1, hlt, by simp [hW2], ?_, ?_, ?_, U4.grownR gr5 (fun j' e => hm.symm ▸ own_base own4 j' e)⟩
              · rw [(rdDots_step (j + 1) st0).1, HL.out, cellsD_append]
                exact own5
              · rw [(rdDots_step (j + 1) st0).1, HL.out, hflag.out]
              · rw [(rdDots_step (j + 1) st0).2, HS.out]
                exact S4.grownR gr5 own4 Bm
            case measure => simp [hW2]; omega
          · have hflag : Hid (decide (Right (l ++ [(p, q)])) = false) := decide_eq_false (fun h => hzp ((f1.1 h).2.2 z hmem))
            have hzp' : (p : Int) ≤ (z.1 : Int) := Int.ofNat_le.2 (Nat.le_of_not_lt hzp)
            clear f1 hR hlast
            have j7 : decide ((0 : Int) < (j : Int) + 1) = true := decide_eq_true j5
            have j8 : decide ((p : Int) ≤ (z.1 : Int)) = true := decide_eq_true hzp'
            have j9 : decide (p ≤ z.1) = true := decide_eq_true (Nat.le_of_not_lt hzp)
            clear hq0 own3 hD hg hlen h67 hk hk2 hs
            go_quiet (fail)
            have own4 := OWN4.out nq
            have U4 := U4H.out nq
            have S4 := S4H.out nq
            have le4 : m ≤ (((w3.alloc (.cells #[.int .u64 (p : Int), .int .u64 (q : Int)] 33)).drewN nq).alloc (.cells #[.int .u64 (p : Int), .int .u64 (q : Int)] 33)).heap.size := hm ▸ U4.size
            go_wp2_with (first
              | (at_builtin; refine wpList_append_src rfl (.tmp 39) (.tmp 41) 28 rfl m 33 i0 (.agg #[.int .u64 0, .int .u64 0]) 2 16 Try.underlying28 F33.out hz0 hz1 hz2 rfl (by omega) _ _ _ own4 rfl [.int .u64 (p : Int), .int .u64 (q : Int)] _ _ _ rfl rfl (fun _ => ⟨_, rfl, HN.out nq⟩) (by intro u hu; simp at hu; rcases hu with rfl | rfl <;> rfl) hA1.out hA2.out le4 ?_; intro v5 w5 own5 gr5 at5))
            go_roundw
            case rel =>
              refine ⟨(j + 1) + 1, hlt, by simp [hW2], ?_, ?_, ?_, U4.grownR gr5 (fun j' e => hm.symm ▸ own_base own4 j' e)⟩
              · rw [(rdDots_step (j + 1) st0).1, HL.out, cellsD_append]
                exact own5
              · rw [(rdDots_step (j + 1) st0).1, HL.out, hflag.out]
              · rw [(rdDots_step (j + 1) st0).2, HS.out]
                exact S4.grownR gr5 own4 Bm
            case measure => simp [hW2]; omega
    · obtain rfl : i = k := by omega
      have hlen : (rdDots i st0).1.length = i := rdDots_len i st0
      have hcl : Clk (From m wr) wr u5 (rdDots i st0).1 := own_clk (by rw [hlen]; exact hown)
      obtain ⟨a5, c5, rfl, -⟩ := id hcl
      have HRL : Hid (readL s = (rdDots i st0).1) := hRL.out
      have HTS : Hid (tkS s = (rdDots i st0).2) := hTS.out
      rw [hlen] at hcl ⊢
      have hTR : Hid (∀ (t : Bool) (e : Ending) (a : Option Addr) (cap : Nat), tkB s = t → (t = true → a = a5 ∧ cap = c5) → e = .returned (.tuple #[.slice a (if t then i else 0) cap, .bool t]) → TakeR b s w e wr) := fun t e a cap ht ha he => by
        have hv : tkV s = if t then (rdDots i st0).1 else [] := by unfold tkV; rw [ht, HRL.out]
        cases t with
        | true =>
          obtain ⟨rfl, rfl⟩ := ha rfl
          refine ⟨a, cap, ?_, ?_, by rw [HTS.out]; exact hS, hU⟩
          · rw [he, hv, ht]; simp [hlen]
          · rw [hv]; simp only [if_true]; rw [hlen, hm]; exact hcl
        | false =>
          refine ⟨a, cap, ?_, ?_, by rw [HTS.out]; exact hS, hU⟩
          · rw [he, hv, ht]; rfl
          · rw [hv]; exact Clk.nil _ _ _ _
      obtain ⟨E, hE1, hE2, -⟩ := id hS
      have c1 : wr.cell? ⟨b, 1, none⟩ = some (.int .i64 E) := hE2.at 1 _ rfl
      have htk : tkB s = decide ((rdDots i st0).2.2 = 0 ∧ Right (rdDots i st0).1) := by unfold tkB; rw [HRL.out, HTS.out]
      clear hRL hTS HRL HTS hcl hown hE2 hU h67 hk hs hlen hS
      by_cases hE : E = 0
      · have h0 := hE1.1 hE
        by_cases hRt : Right (rdDots i st0).1
        · have ht : Hid (tkB s = true) := by rw [htk, decide_eq_true ⟨h0, hRt⟩]; exact rfl
          rw [decide_eq_true hRt]
          have hEb : (E == 0) = true := by simp [hE]
          clear htk hE1 h0 hRt
          go_wp2
          exact bodyPost_ret (results_tmp2 (t := 2) (u := 3) (by kernel_rfl) _ _ _) rfl (hTR.out true _ _ _ ht.out (fun _ => ⟨rfl, rfl⟩) rfl)
        · have ht : Hid (tkB s = false) := by rw [htk, decide_eq_false (fun q => hRt q.2)]; exact rfl
          rw [decide_eq_false hRt]
          have hEb : (E == 0) = true := by simp [hE]
          clear htk hE1 h0 hRt
          go_wp2
          exact bodyPost_ret (results_tmp2 (t := 2) (u := 3) (by kernel_rfl) _ _ _) rfl (hTR.out false _ _ _ ht.out (fun h => by cases h) rfl)
      · have ht : Hid (tkB s = false) := by rw [htk, decide_eq_false (fun q => hE (hE1.2 q.1))]; exact rfl
        have hEb : (E == 0) = false := beq_eq_false_iff_ne.2 hE
        have hEn : (E != 0) = true := by simp [hE]
        generalize decide (Right (rdDots i st0).1) = RR at *
        clear htk hE1
        go_wp2
        exact bodyPost_ret (results_tmp2 (t := 2) (u := 3) (by kernel_rfl) _ _ _) rfl (hTR.out false _ _ _ ht.out (fun h => by cases h) rfl)
end Go.Proofs.Ytbmeflildmeecaa
