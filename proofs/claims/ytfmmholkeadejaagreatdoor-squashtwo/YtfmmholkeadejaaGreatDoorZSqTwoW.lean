/- SquashTwo (10): the walk. -/
import Derived.Test.YtfmmholkeadejaaGreatDoorZSqCt
namespace Go.Proofs.YtfmmholkeadejaaGreatDoor
open Go.RowKit

abbrev caB : ByteArray := ⟨#[97]⟩
abbrev cbB : ByteArray := ⟨#[98]⟩
def A4 : List (List UInt8) := [(cntB caB).data.toList, (comB (cntB caB)).data.toList, (cntB cbB).data.toList, (comB (cntB cbB)).data.toList]
theorem nmA : NmOk caB A4 := ⟨by kernel_rfl, by decide, by kernel_rfl, by kernel_rfl, by decide +kernel, by simp [A4], by simp [A4]⟩
theorem nmC : NmOk cbB A4 := ⟨by kernel_rfl, by decide, by kernel_rfl, by kernel_rfl, by decide +kernel, by simp [A4], by simp [A4]⟩
theorem apart : (cntB cbB).data.toList ≠ (cntB caB).data.toList ∧ (cntB cbB).data.toList ≠ (comB (cntB caB)).data.toList ∧ (cntB caB).data.toList ≠ (cntB cbB).data.toList ∧ (cntB caB).data.toList ≠ (comB (cntB cbB)).data.toList := ⟨by decide +kernel, by decide +kernel, by decide +kernel, by decide +kernel⟩
/-- One counter, and its file. -/
structure C1 (w : World) (d k : Nat) (nm : ByteArray) (S : Dk) (x : Nat) (W : World) : Prop where
  ex : ∃ last, Holds W k (ctV d nm last x false) 72 ∧ Lf S nm last ∧ x ≤ last ∧ last ≤ x + 100
  le : w.heap.size ≤ k
/-- Two counters on one disk. -/
def TwoC (w : World) (d ka kb x y : Nat) (W : World) : Prop := ∃ S, Dw w W d S A4 ∧ S.on = true ∧ S.armed = false ∧ ka ≠ kb ∧ C1 w d ka caB S x W ∧ C1 w d kb cbB S y W
theorem Lf.same {S S' : Dk} {nm : ByteArray} {v : Nat} (h : Lf S nm v) (e : get S'.fs (cntB nm).data.toList = get S.fs (cntB nm).data.toList) : Lf S' nm v := by
  unfold Lf
  rw [e]; exact h
theorem C1.left {w W W' : World} {d k j : Nat} {nm nm' : ByteArray} {S S' : Dk} {x : Nat} (h : C1 w d j nm' S x W) (hl : Left1 W W' k nm S S') (hj : j ≠ k) (h1 : (cntB nm').data.toList ≠ (cntB nm).data.toList) (h2 : (cntB nm').data.toList ≠ (comB (cntB nm)).data.toList) : C1 w d j nm' S' x W' := by
  obtain ⟨last, q1, q2, q3⟩ := h.ex
  exact ⟨⟨last, hl.cnt j _ hj q1, q2.same (hl.oth _ h1 h2), q3⟩, h.le⟩
theorem c1_next {w W : World} {d k : Nat} {S : Dk} {nm : ByteArray} {x : Nat} (hn : NmOk nm A4) (hx : x ≤ 1000) (h : Dw w W d S A4) (hon : S.on = true) (ha : S.armed = false) (hc : C1 w d k nm S x W) :
    Calls Tryz.prog 42 #[.pointer (some ⟨k, 0, none⟩)] W fun e w' => e = .returned (.tuple #[.int .u64 ((x : Int) + 1), .int .i64 0]) ∧ ∃ S', Dw w w' d S' A4 ∧ S'.on = true ∧ S'.armed = false ∧ C1 w d k nm S' (x + 1) w' ∧ Left1 W w' k nm S S' := by
  obtain ⟨last, q1, q2, q3, q4⟩ := hc.ex
  rcases Nat.lt_or_ge x last with hlt | hge
  · exact (ct_have h hc.le q1 hlt (by omega)).mono fun e w' ⟨e1, e2, e3, e4⟩ => ⟨e1, S, e2, hon, ha, ⟨⟨last, e3, q2, by omega, by omega⟩, hc.le⟩, e4⟩
  · obtain rfl : x = last := by omega
    obtain ⟨S', f1, f2, f3 | f3⟩ := ct_more h hn hon q2 (by omega)
    · obtain ⟨g1, g2, g3⟩ := f3
      exact (g3 W k h hc.le q1).mono fun e w' ⟨e1, e2, e3, e4⟩ => ⟨e1, S', e2, g1, f2 ha, ⟨⟨x + 100, e3, g2, by omega, by omega⟩, hc.le⟩, e4⟩
    · rw [ha] at f3; cases f3.1
theorem two_a {w W : World} {d ka kb x y : Nat} (hx : x ≤ 1000) (h : TwoC w d ka kb x y W) : Calls Tryz.prog 42 #[.pointer (some ⟨ka, 0, none⟩)] W fun e w' => e = .returned (.tuple #[.int .u64 ((x : Int) + 1), .int .i64 0]) ∧ TwoC w d ka kb (x + 1) y w' := by
  obtain ⟨S, h1, h2, h3, h4, h5, h6⟩ := h
  exact (c1_next nmA hx h1 h2 h3 h5).mono fun e w' ⟨e1, S', e2, e3, e4, e5, e6⟩ => ⟨e1, S', e2, e3, e4, h4, e5, h6.left e6 (fun e => h4 e.symm) apart.1 apart.2.1⟩
theorem two_b {w W : World} {d ka kb x y : Nat} (hy : y ≤ 1000) (h : TwoC w d ka kb x y W) : Calls Tryz.prog 42 #[.pointer (some ⟨kb, 0, none⟩)] W fun e w' => e = .returned (.tuple #[.int .u64 ((y : Int) + 1), .int .i64 0]) ∧ TwoC w d ka kb x (y + 1) w' := by
  obtain ⟨S, h1, h2, h3, h4, h5, h6⟩ := h
  exact (c1_next nmC hy h1 h2 h3 h6).mono fun e w' ⟨e1, S', e2, e3, e4, e5, e6⟩ => ⟨e1, S', e2, e3, e4, h4, h5.left e6 h4 apart.2.2.1 apart.2.2.2, e5⟩
theorem TwoC.bel {w W : World} {d ka kb x y : Nat} (h : TwoC w d ka kb x y W) : Below w.heap.size w W := by
  obtain ⟨S, h1, _⟩ := h
  exact h1.cur.bel
theorem two_leased {w W : World} {d ka kb x y : Nat} (h : TwoC w d ka kb x y W) : ∃ la lb, x ≤ la ∧ y ≤ lb ∧ Hid (Calls Tryz.prog 44 #[.pointer (some ⟨ka, 0, none⟩)] W fun e w' => e = .returned (.int .u64 (la : Int)) ∧ w' = W) ∧ Hid (Calls Tryz.prog 44 #[.pointer (some ⟨kb, 0, none⟩)] W fun e w' => e = .returned (.int .u64 (lb : Int)) ∧ w' = W) := by
  obtain ⟨S, h1, h2, h3, h4, h5, h6⟩ := h
  obtain ⟨la, q1, q2, q3, q4⟩ := h5.ex
  obtain ⟨lb, r1, r2, r3, r4⟩ := h6.ex
  exact ⟨la, lb, q3, r3, leased_some d ka caB la x false W q1, leased_some d kb cbB lb y false W r1⟩
theorem few_new (A : List (List UInt8)) (hA : A.length ≤ 4) : Few (newS 1048576) A := ⟨fun k f h => (by cases h), (by decide), hA⟩
theorem lf_new (nm : ByteArray) : Lf (newS 1048576) nm 0 := .inl ⟨rfl, rfl⟩
theorem two_first {w W : World} {d : Nat} (h : Dw w W d (newS 1048576) A4) : Calls Tryz.prog 41 #[.pointer (some ⟨d, 0, none⟩), .string caB] W fun e w' => ∃ ka, e = .returned (.tuple #[.pointer (some ⟨ka, 0, none⟩), .int .i64 0]) ∧ Dw w w' d (newS 1048576) A4 ∧ C1 w d ka caB (newS 1048576) 0 w' ∧ ka < w'.heap.size :=
  (ct_new (by decide) h nmA rfl (lf_new _)).mono fun e w' ⟨k, e1, e2, e3, e4, e5⟩ => ⟨k, e1, e2, ⟨⟨0, e3, lf_new _, by omega, by omega⟩, Nat.le_trans h.cur.bel.size e4⟩, e3.lt⟩
theorem two_second {w W : World} {d ka : Nat} (h : Dw w W d (newS 1048576) A4) (hc : C1 w d ka caB (newS 1048576) 0 W) (hk : ka < W.heap.size) : Calls Tryz.prog 41 #[.pointer (some ⟨d, 0, none⟩), .string cbB] W fun e w' => ∃ kb, e = .returned (.tuple #[.pointer (some ⟨kb, 0, none⟩), .int .i64 0]) ∧ TwoC w d ka kb 0 0 w' :=
  (ct_new (by decide) h nmC rfl (lf_new _)).mono fun e w' ⟨k, e1, e2, e3, e4, e5⟩ => ⟨k, e1, newS 1048576, e2, rfl, rfl, by omega, by
    obtain ⟨last, q1, q2⟩ := hc.ex
    exact ⟨⟨last, q1.below e5 q1.lt, q2⟩, hc.le⟩, ⟨⟨0, e3, lf_new _, by omega, by omega⟩, Nat.le_trans h.cur.bel.size e4⟩⟩
/-- The turns in memory. -/
def InT (w : World) (a : Option Addr) (l : List Bool) : Prop := l ≠ [] → ∃ b o, a = some ⟨b, o, none⟩ ∧ b < w.heap.size ∧ ∀ i x, l[i]? = some x → w.cell? ⟨b, o + i, none⟩ = some (.bool x)
set_option maxHeartbeats 0 in
set_option maxRecDepth 100000 in
theorem squashTwo_walk (l : List Bool) (a : Option Addr) (cap : Nat) (hlen : l.length ≤ 9223372036854775807) (w : World) (hT : Tab w.heap.size w) (hl : InT w a l) :
    Calls Tryz.prog 10 #[.slice a l.length cap] w fun e w' => e = .returned (.bool true) ∧ Below w.heap.size w w' := by
  have hA : Hid (Calls Tryz.prog 43 #[] w fun e w' => e = .returned (.bool true) ∧ Hid (Below w.heap.size w w')) := awake5_any w hT
  have h29 : Hid (∀ W, Hid (Below w.heap.size w W) → Calls Tryz.prog 29 #[.int .i64 1048576] W fun e w' => e = .returned (.pointer (some ⟨W.heap.size, 0, none⟩)) ∧ Hid (Dw w w' W.heap.size (newS 1048576) A4)) := fun W hB => (full_new w W hT hB.out 1048576).mono fun e w' ⟨e1, e2⟩ => ⟨e1, e2, few_new A4 (by simp [A4])⟩
  have h41 : Hid (∀ W d, Hid (Dw w W d (newS 1048576) A4) → Calls Tryz.prog 41 #[.pointer (some ⟨d, 0, none⟩), .string caB] W fun e w' => ∃ ka, e = .returned (.tuple #[.pointer (some ⟨ka, 0, none⟩), .int .i64 0]) ∧ Hid (Dw w w' d (newS 1048576) A4 ∧ C1 w d ka caB (newS 1048576) 0 w' ∧ ka < w'.heap.size)) := fun W d h => two_first h.out
  have h41b : Hid (∀ W d ka, Hid (Dw w W d (newS 1048576) A4 ∧ C1 w d ka caB (newS 1048576) 0 W ∧ ka < W.heap.size) → Calls Tryz.prog 41 #[.pointer (some ⟨d, 0, none⟩), .string cbB] W fun e w' => ∃ kb, e = .returned (.tuple #[.pointer (some ⟨kb, 0, none⟩), .int .i64 0]) ∧ Hid (TwoC w d ka kb 0 0 w')) := fun W d ka h => two_second h.out.1 h.out.2.1 h.out.2.2
  have hna : Hid (∀ W d ka kb x y, x ≤ 1000 → Hid (TwoC w d ka kb x y W) → Calls Tryz.prog 42 #[.pointer (some ⟨ka, 0, none⟩)] W fun e w' => e = .returned (.tuple #[.int .u64 ((x : Int) + 1), .int .i64 0]) ∧ Hid (TwoC w d ka kb (x + 1) y w')) := fun W d ka kb x y hx h => two_a hx h.out
  have hnb : Hid (∀ W d ka kb x y, y ≤ 1000 → Hid (TwoC w d ka kb x y W) → Calls Tryz.prog 42 #[.pointer (some ⟨kb, 0, none⟩)] W fun e w' => e = .returned (.tuple #[.int .u64 ((y : Int) + 1), .int .i64 0]) ∧ Hid (TwoC w d ka kb x (y + 1) w')) := fun W d ka kb x y hy h => two_b hy h.out
  have hl : Hid (InT w a l) := hl
  obtain ⟨LN, hLN0⟩ : ∃ LN, l.length = LN := ⟨_, rfl⟩
  have hLN : Hid (l.length = LN) := hLN0
  rw [hLN0] at hlen ⊢
  clear hT hLN0
  go_enter Tryz.func10, Tryz.ntmps10
  go_wp2_with (first
    | (go_at_call 41; refine (h41b.out _ _ _ s1).mono ?_; rintro e w2 ⟨kb, rfl, s2⟩)
    | (go_at_call 41; refine (h41.out _ _ sn).mono ?_; rintro e w1 ⟨ka, rfl, s1⟩)
    | (go_at_call 29; refine (h29.out _ sA).mono ?_; rintro e wn ⟨rfl, sn⟩)
    | (go_at_call 43; refine hA.out.mono ?_; rintro e wA ⟨rfl, sA⟩))
  obtain ⟨Db, hDb⟩ : ∃ Db, wA.heap.size = Db := ⟨_, rfl⟩
  rw [hDb] at s2 ⊢
  clear hA h29 h41 h41b sn s1 hDb sA
  go_loopw [9, 10, 11] (fun xv yv p wr => ∃ i x y : Nat, i ≤ 300 ∧ i ≤ LN ∧ x ≤ i ∧ y ≤ i ∧ p = .int .i64 (i : Int) ∧ xv = .int .u64 (x : Int) ∧ yv = .int .u64 (y : Int) ∧ Hid (TwoC w Db ka kb x y wr)) (fun _ _ p _ => LN - (intOf p).toNat)
  case atStart => exact ⟨0, 0, 0, by omega, by omega, by omega, by omega, rfl, rfl, rfl, s2⟩
  case round =>
    obtain ⟨i, x, y, hi, hiL, hxi, hyi, rfl, rfl, rfl, hI⟩ := hrel
    clear s2
    rcases Nat.lt_or_ge i LN with hlt | hge
    · rcases Nat.lt_or_ge i 300 with h300 | h300
      · have hlen' := hLN.out
        obtain ⟨t, ht⟩ : ∃ t, l[i]? = some t := ⟨_, List.getElem?_eq_getElem (by omega)⟩
        obtain ⟨b, off, rfl, hb, hcells⟩ := hl.out (fun e => by rw [e] at ht; simp at ht)
        have k0 : wr.cell? ⟨b, off + i, none⟩ = some (.bool t) := (hI.out.bel.cell (p := ⟨b, off + i, none⟩) hb).trans (hcells i t ht)
        have g1 : (i : Int) < (LN : Int) := by omega
        have g2 : (0 : Int) ≤ (i : Int) := by omega
        have g3 : (i : Int) < 300 := by omega
        have g4 : IntKind.i64.wrap ((i : Int) + 1) = (i : Int) + 1 := by simp [IntKind.wrap, IntKind.bits, IntKind.signed]; omega
        have g5 : IntKind.u64.wrap ((x : Int) + 1) = (x : Int) + 1 := by simp [IntKind.wrap, IntKind.bits, IntKind.signed]; omega
        have g6 : IntKind.u64.wrap ((y : Int) + 1) = (y : Int) + 1 := by simp [IntKind.wrap, IntKind.bits, IntKind.signed]; omega
        clear hcells hb hlen' ht
        cases t with
        | true =>
          go_wp2_with (go_at_call 42; refine (hna.out _ _ _ _ _ _ (by omega) hI).mono ?_; rintro e w3 ⟨rfl, s3⟩)
          go_roundw
          case rel => exact ⟨i + 1, x + 1, y, by omega, by omega, by omega, by omega, by simp, by simp, rfl, s3⟩
          case measure => simp; omega
        | false =>
          go_wp2_with (go_at_call 42; refine (hnb.out _ _ _ _ _ _ (by omega) hI).mono ?_; rintro e w3 ⟨rfl, s3⟩)
          go_roundw
          case rel => exact ⟨i + 1, x, y + 1, by omega, by omega, by omega, by omega, by simp, rfl, by simp, s3⟩
          case measure => simp; omega
      · have g1 : (i : Int) < (LN : Int) := by omega
        have g3 : ¬ (i : Int) < 300 := by omega
        have g5 : decide ((i : Int) < 300) = false := decide_eq_false g3
        obtain ⟨la, lb, q1, q2, q3, q4⟩ := two_leased hI.out
        have p1 : (x : Int) ≤ (la : Int) := by omega
        have p2 : (y : Int) ≤ (lb : Int) := by omega
        go_wp2_with (first
          | (go_at_call 44; refine q3.out.mono ?_; rintro e w3 ⟨rfl, e3⟩; rw [e3]; clear e3)
          | (go_at_call 44; refine q4.out.mono ?_; rintro e w3 ⟨rfl, e3⟩; rw [e3]; clear e3))
        go_ret
        exact ⟨rfl, hI.out.bel⟩
    · obtain rfl : i = LN := by omega
      obtain ⟨la, lb, q1, q2, q3, q4⟩ := two_leased hI.out
      have p1 : (x : Int) ≤ (la : Int) := by omega
      have p2 : (y : Int) ≤ (lb : Int) := by omega
      go_wp2_with (first
        | (go_at_call 44; refine q3.out.mono ?_; rintro e w3 ⟨rfl, e3⟩; rw [e3]; clear e3)
        | (go_at_call 44; refine q4.out.mono ?_; rintro e w3 ⟨rfl, e3⟩; rw [e3]; clear e3))
      go_ret
      exact ⟨rfl, hI.out.bel⟩
end Go.Proofs.YtfmmholkeadejaaGreatDoor
