/- ClockAsks (5): the law's call returns true. -/
import Derived.Deep.MidRow
import Derived.Deep.RegionHeld3
import Derived.Test.YtbmeflildmeecaaMerges
import Derived.Test.YtbmeflildmeecaaClThaw
import Derived.Test.YtbmeflildmeecaaClRefCmp
namespace Go.Proofs.Ytbmeflildmeecaa
open Go.RowKit Go.Shelf Go.Sort Go.Lib Pk

theorem own_from {w : World} {m : Nat} {v : Value} {l : List Dt} (h : w.ownsRow m 33 2 v (0 + l.length) ([] ++ cellsD l)) : w.ownsRow m 33 2 v l.length (cellsD l) := by simpa using h
theorem rnorm1 {W : World} {u : Value} {c : List Dt} (hu : At W u c) (hl : c.length ≤ 1099511627776) : Calls Try.prog 19 #[u] W (Makes W (norm c)) := refNorm_any u c hl W (Hid.out hu)
theorem normS {W : World} {u : Value} {c : List Dt} (hu : At W u c) (hl : c.length ≤ 8796093022208) : Calls Try.prog 13 #[u] W (MakesS W (norm c)) := norm_soft u c hl W (Hid.out hu)
theorem addS {W : World} {u : Value} {c : List Dt} (x : Dt) (hu : At W u c) (hl : c.length + 1 ≤ 8796093022208) : Calls Try.prog 14 #[u, .slice (some ⟨W.heap.size, 0, none⟩) 1 1] (W.alloc (.cells #[.int .u64 (x.1 : Int), .int .u64 (x.2 : Int)] 33)) (MakesS W (norm (c ++ [x]))) := by
  have h := add_soft u (.slice (some ⟨W.heap.size, 0, none⟩) 1 1) c [x] hl (W.alloc (.cells #[.int .u64 (x.1 : Int), .int .u64 (x.2 : Int)] 33)) (Clk.up (Hid.out hu) (below_alloc _ _)) (clk_row (l := [x]) (by simp) (row_new W [x]))
  exact h.mono (fun e w' hm => hm.alloc)
theorem rtwo {W : World} {u v : Value} {c d : List Dt} (hu : At W u c) (hv : At W v d) (hl : c.length + d.length ≤ 1099511627776) : Calls Try.prog 20 #[u, v] W (Makes W (norm (c ++ d))) := refTwo_any u v c d hl W (Hid.out hu) (Hid.out hv)
theorem rtwo1 {W : World} {u : Value} {c : List Dt} (x : Dt) (hu : At W u c) (hl : c.length + 1 ≤ 1099511627776) : Calls Try.prog 20 #[u, .slice (some ⟨W.heap.size, 0, none⟩) 1 1] (W.alloc (.cells #[.int .u64 (x.1 : Int), .int .u64 (x.2 : Int)] 33)) (Makes W (norm (c ++ [x]))) := by
  have h := refTwo_any u (.slice (some ⟨W.heap.size, 0, none⟩) 1 1) c [x] hl (W.alloc (.cells #[.int .u64 (x.1 : Int), .int .u64 (x.2 : Int)] 33)) (Clk.up (Hid.out hu) (below_alloc _ _)) (clk_row (l := [x]) (by simp) (row_new W [x]))
  exact h.mono (fun e w' hm => hm.alloc)
/-- The cell is there, and may be written. -/
def There (w : World) (p : Addr) : Prop := (w.cell? p).isSome = true ∧ w.frozen? p = false
theorem There.set {w : World} {p : Addr} (h : There w p) (b o : Nat) (v : Value) : There (w.setCell ⟨b, o, none⟩ v) p :=
  ⟨World.isSome_setCells b [v] o w p h.1, (World.frozen?_setCells b [v] o w p).trans h.2⟩
/-- The N of each dot of the slice may be written; its block is none below s. -/
def Soil (s : Nat) (w : World) (a : Option Addr) (n : Nat) : Prop := ∀ j, j < n → ∃ b o, a = some ⟨b, o, none⟩ ∧ s ≤ b ∧ There w ⟨b, o + j * 2 + 1, none⟩
theorem Soil.set {s n : Nat} {w : World} {a : Option Addr} (h : Soil s w a n) (b o : Nat) (v : Value) : Soil s (w.setCell ⟨b, o, none⟩ v) a n := fun j hj => by
  obtain ⟨b', o', e, h1, h2⟩ := h j hj
  exact ⟨b', o', e, h1, h2.set b o v⟩
theorem soil_of {s : Nat} {w W : World} {a : Option Addr} {cap : Nat} {l : List Dt} (h : Clk (From s w) w (.slice a l.length cap) l) (hS : Soft w (.slice a l.length cap)) (hB : Below w.heap.size w W) {r : Nat} (hr : r ≤ s) : Soil r W a l.length := fun j hj => by
  obtain ⟨a', cap', e, hrw⟩ := h
  simp only [Value.slice.injEq] at e
  obtain ⟨rfl, -, -⟩ := e
  obtain ⟨b, o, rfl, hb, hrw⟩ := hrw (by intro e; rw [e] at hj; simp at hj)
  have hx : l[j]? = some l[j] := List.getElem?_eq_getElem hj
  have h2 := (hrw j _ hx).2
  refine ⟨b, o, rfl, Nat.le_trans hr hb.1, ?_, ?_⟩
  · rw [hB.cell (p := ⟨b, o + j * 2 + 1, none⟩) hb.2, h2]; rfl
  · have := hS b o _ _ rfl (o + j * 2 + 1)
    unfold World.frozen? at this ⊢
    rw [hB.block b hb.2]
    exact this

set_option maxRecDepth 100000 in
set_option maxHeartbeats 40000000 in
theorem asks_walk (A B : List Dt) (d : Dt) (hA : A.length ≤ 1048576) (hB : B.length ≤ 1048576) (hfA : Fit A) (aA aB : Option Addr) (cA cB : Nat) (w : World) (kA : Clk (Lt w.heap.size) w (.slice aA A.length cA) A) (kB : Clk (Lt w.heap.size) w (.slice aB B.length cB) B) :
    Calls Try.prog 5 #[.slice aA A.length cA, .slice aB B.length cB, dotV d] w fun e w' => e = .returned (.bool true) ∧ Below w.heap.size w w' := by
  have hB0 : Below w.heap.size w (w.alloc (.cells #[.int .u64 (d.1 : Int), .int .u64 (d.2 : Int)] 33)) := below_alloc w _
  have h10 := awake_any (w.alloc (.cells #[.int .u64 (d.1 : Int), .int .u64 (d.2 : Int)] 33))
  have hD0 := holds_new w [.int .u64 (d.1 : Int), .int .u64 (d.2 : Int)] 33
  have kA0 : At (w.alloc (.cells #[.int .u64 (d.1 : Int), .int .u64 (d.2 : Int)] 33)) (.slice aA A.length cA) A := kA.up hB0
  have kB0 : At (w.alloc (.cells #[.int .u64 (d.1 : Int), .int .u64 (d.2 : Int)] 33)) (.slice aB B.length cB) B := kB.up hB0
  obtain ⟨i0, hi, hz0, hz1, hz2⟩ := info_parts info33
  have F33 : Hid (Try.prog.info? 33 = some i0) := hi
  clear hi kA kB
  have l1 := norm_len A
  have l2 := norm_len (A ++ B)
  have l3 := norm_len (A ++ [d])
  simp only [List.length_append, List.length_cons, List.length_nil] at l2 l3
  go_enter Try.func5, Try.ntmps5
  go_wp2_with (first
    | (go_at_call 18; refine (same2 kL11 kU11 rfl (by omega)).mono ?_; rintro e w12 ⟨rfl, b12⟩; clear kL11 kU11 hD11)
    | (go_at_call 20; refine (rtwo1 d kA10 (by omega)).mono ?_; rintro e w11 ⟨aU, cU, rfl, qU, b11⟩; have kU11 := Makes.at qU; clear qU; have kL11 := kL10.up b11; have hD11 := hD10.below b11 hD10.lt; clear kA10 kL10 hD10 x010 x110)
    | (go_at_call 18; refine (same2 kM9 kT9 rfl (by omega)).mono ?_; rintro e w10 ⟨rfl, b10⟩; have kA10 := kA9.up b10; have kL10 := kL9.up b10; have hD10 := hD9.below b10 hD9.lt; have x010 := hD10.at 0 _ rfl; have x110 := hD10.at 1 _ rfl; clear kA9 kM9 kL9 kT9 hD9)
    | (go_at_call 20; refine (rtwo kA8 kB8 (by omega)).mono ?_; rintro e w9 ⟨aT, cT, rfl, qT, b9⟩; have kT9 := Makes.at qT; clear qT; have kA9 := kA8.up b9; have kM9 := kM8.up b9; have kL9 := kL8.up b9; have hD9 := hD8.below b9 hD8.lt; clear kA8 kB8 kM8 kL8 hD8)
    | (go_at_call 18; refine (same2 kN7 kR7 rfl (by omega)).mono ?_; rintro e w8 ⟨rfl, b8⟩; have kA8 := kA7.up b8; have kB8 := kB7.up b8; have kM8 := kM7.up b8; have kL8 := kL7.up b8; have hD8 := hD7.below b8 hD7.lt; clear kA7 kB7 kN7 kM7 kL7 kR7 hD7)
    | (go_at_call 19; refine (rnorm1 kA6 (by omega)).mono ?_; rintro e w7 ⟨aR, cR, rfl, qR, b7⟩; have kR7 := Makes.at qR; clear qR; have kA7 := kA6.up b7; have kB7 := kB6.up b7; have kN7 := kN6.up b7; have kM7 := kM6.up b7; have kL7 := kL6.up b7; have hD7 := hD6.below b7 hD6.lt; clear kA6 kB6 kN6 kM6 kL6 hD6)
    | (go_at_call 14; refine (addS d kX5 (by omega)).mono ?_; rintro e w6 ⟨aL, cL, rfl, qL, b6, sL⟩; have kL6 := Makes.at qL; have kA6 := kA5.up b6; have kB6 := kB5.up b6; have kN6 := kN5.up b6; have kM6 := kM5.up b6; have hD6 := hD5.below b6 hD5.lt; clear kA5 kB5 kX5 kN5 kM5 hD5 x05 x15)
    | (go_at_call 17; refine (merge2 kX4 kY4 (by omega)).mono ?_; rintro e w5 ⟨aM, cM, rfl, qM, b5⟩; have kM5 := Makes.at qM; clear qM; have kA5 := kA4.up b5; have kB5 := kB4.up b5; have kX5 := kX4.up b5; have kN5 := kN4.up b5; have hD5 := hD4.below b5 hD4.lt; have x05 := hD5.at 0 _ rfl; have x15 := hD5.at 1 _ rfl; clear kA4 kB4 kX4 kY4 kN4 hD4)
    | (go_at_call 13; refine (normS kX3 (by omega)).mono ?_; rintro e w4 ⟨aN, cN, rfl, qN, b4, sN⟩; have kN4 := Makes.at qN; have B4 := b4; have kA4 := kA3.up b4; have kB4 := kB3.up b4; have kX4 := kX3.up b4; have kY4 := kY3.up b4; have hD4 := hD3.below b4 hD3.lt;)
    | (at_builtin; refine wpList_append_src rfl (.tmp 24) (.tmp 25) 28 rfl w2.heap.size 33 i0 (.agg #[.int .u64 0, .int .u64 0]) 2 16 Try.underlying28 F33.out hz0 hz1 hz2 rfl (by omega) _ _ _ (World.ownsRow_nil _ _ _ _) rfl (cellsD B) _ _ _ rfl (cellsD_len B) (clk_news (Hid.out kB2)) (fun u hu => cells_one hu) (by unfold maxLen; omega) (by omega) (Nat.le_refl _) ?_; intro vY w3 ownY gr at_; have b3 : Below w2.heap.size w2 w3 := (Below.refl _ w2).grown gr (Nat.le_refl _) (fun j e => by cases e); have kY3 : At w3 vY B := (own_clk (own_from ownY)).made; clear gr at_ ownY; obtain ⟨aY, cY, rfl, -⟩ := id (Hid.out kY3); have kA3 := kA2.up b3; have kB3 := kB2.up b3; have kX3 := kX2.up b3; have hD3 := hD2.below b3 hD2.lt; clear kA2 kB2 kX2 hD2)
    | (at_builtin; refine wpList_append_src rfl (.tmp 21) (.tmp 22) 28 rfl w1.heap.size 33 i0 (.agg #[.int .u64 0, .int .u64 0]) 2 16 Try.underlying28 F33.out hz0 hz1 hz2 rfl (by omega) _ _ _ (World.ownsRow_nil _ _ _ _) rfl (cellsD A) _ _ _ rfl (cellsD_len A) (clk_news (Hid.out kA1)) (fun u hu => cells_one hu) (by unfold maxLen; omega) (by omega) (Nat.le_refl _) ?_; intro vX w2 ownX gr at_; have b2 : Below w1.heap.size w1 w2 := (Below.refl _ w1).grown gr (Nat.le_refl _) (fun j e => by cases e); have kX2 : At w2 vX A := (own_clk (own_from ownX)).made; clear gr at_ ownX; obtain ⟨aX, cX, rfl, -⟩ := id (Hid.out kX2); have kA2 := kA1.up b2; have kB2 := kB1.up b2; have hD2 := hD1.below b2 hD1.lt; clear kA1 kB1 hD1)
    | (go_at_call 10; refine h10.mono ?_; rintro e w1 ⟨rfl, b1⟩; have kA1 := kA0.up b1; have kB1 := kB0.up b1; have hD1 := hD0.below b1 hD0.lt; clear kA0 kB0 hD0))
  have B12 : Below w4.heap.size w4 w12 := (below_trans b5 (below_trans b6 (below_trans b7 (below_trans b8 (below_trans b9 (below_trans b10 (below_trans b11 b12)))))))
  have B12L : Below w6.heap.size w6 w12 := (below_trans b7 (below_trans b8 (below_trans b9 (below_trans b10 (below_trans b11 b12)))))
  have B3 : Below w3.heap.size w3 w12 := below_trans B4 B12
  have s46 : w3.heap.size ≤ w5.heap.size := Nat.le_trans b4.size b5.size
  have SN : Hid (Soil w3.heap.size w12 aN (norm A).length) := soil_of qN sN B12 (Nat.le_refl _)
  have SL : Hid (Soil w3.heap.size w12 aL (norm (A ++ [d])).length) := soil_of qL sL B12L s46
  have hW3 : Below w.heap.size w w3 := below_trans hB0 (below_trans b1 (below_trans b2 b3))
  clear qN sN qL sL B12 B12L B4 b1 b2 b3 b4 b5 b6 b7 b8 b9 b10 b11 b12 hB0 h10
  obtain ⟨s3, hs3⟩ : ∃ s, w3.heap.size = s := ⟨_, rfl⟩
  rw [hs3] at SN SL
  obtain ⟨nN, hnN⟩ : ∃ n, (norm A).length = n := ⟨_, rfl⟩
  obtain ⟨nL, hnL⟩ : ∃ n, (norm (A ++ [d])).length = n := ⟨_, rfl⟩
  rw [hnN] at SN l1
  rw [hnL] at SL l3
  simp only [hnN, hnL]
  clear l2 hnN hnL s46
  go_loopw [16] (fun x wr => ∃ i : Nat, i ≤ nN ∧ x = .int .i64 (i : Int) ∧ Soil s3 wr aN nN ∧ Soil s3 wr aL nL ∧ Below s3 w12 wr) (fun x _ => nN - (intOf x).toNat)
  case atStart => exact ⟨0, by omega, rfl, SN.out, SL.out, Below.refl _ _⟩
  case round =>
    obtain ⟨i, hi, rfl, hSN, hSL, hBr⟩ := hrel
    have g1 : (0 : Int) ≤ (i : Int) := by omega
    rcases Nat.lt_or_ge i nN with hlt | hge
    · obtain ⟨b, o, e, hb, hT⟩ := hSN i hlt
      obtain ⟨u, hu⟩ := Option.isSome_iff_exists.1 hT.1
      have hfz := hT.2
      have g2 : (i : Int) < (nN : Int) := by omega
      subst e
      go_wp2
      go_roundw
      case rel => exact ⟨i + 1, by omega, by simp, hSN.set _ _ _, hSL.set _ _ _, hBr.setCell (p := ⟨b, _, none⟩) hb _⟩
      case measure => simp; omega
    · obtain rfl : i = nN := by omega
      clear hSN SN SL
      go_wp2
      go_loopw [17] (fun x wq => ∃ j : Nat, j ≤ nL ∧ x = .int .i64 (j : Int) ∧ Soil s3 wq aL nL ∧ Below s3 w12 wq) (fun x _ => nL - (intOf x).toNat)
      case atStart => exact ⟨0, by omega, rfl, hSL, hBr⟩
      case round =>
        obtain ⟨j, hj, rfl, hSL, hBq⟩ := hrel
        have g3 : (0 : Int) ≤ (j : Int) := by omega
        rcases Nat.lt_or_ge j nL with jlt | jge
        · obtain ⟨b, o, e, hb, hT⟩ := hSL j jlt
          obtain ⟨u, hu⟩ := Option.isSome_iff_exists.1 hT.1
          have hfz := hT.2
          have g4 : (j : Int) < (nL : Int) := by omega
          subst e
          go_wp2
          go_roundw
          case rel => exact ⟨j + 1, by omega, by simp, hSL.set _ _ _, hBq.setCell (p := ⟨b, _, none⟩) hb _⟩
          case measure => simp; omega
        · obtain rfl : j = nL := by omega
          have B13 : Below w3.heap.size w3 wr := B3.trans (hs3 ▸ hBq)
          have kA13 : At wr (.slice aA A.length cA) A := kA3.up B13
          have kB13 : At wr (.slice aB B.length cB) B := kB3.up B13
          have kX13 : At wr (.slice aX A.length cX) A := kX3.up B13
          have kY13 : At wr (.slice aY B.length cY) B := kY3.up B13
          have hD13 := hD3.below B13 hD3.lt
          have b13 := below_trans hW3 B13
          clear kA3 kB3 kX3 kY3 hD3 hSL hBq hBr B3 B13 hs3 hW3
          go_wp2_with (first
            | (go_at_call 18; refine (same2 kY14 kB14 rfl (by omega)).mono ?_; rintro e w15 ⟨rfl, b15⟩; have kA15 := kA14.up b15; have kB15 := kB14.up b15; have hD15 := hD14.below b15 hD14.lt; clear kA14 kB14 kY14 hD14)
            | (go_at_call 18; refine (same2 kX13 kA13 rfl (by omega)).mono ?_; rintro e w14 ⟨rfl, b14⟩; have kA14 := kA13.up b14; have kB14 := kB13.up b14; have kY14 := kY13.up b14; have hD14 := hD13.below b14 hD13.lt; clear kA13 kB13 kX13 kY13 hD13))
          have H12 : Hid (∀ W, Below w15.heap.size w15 W → Calls Try.prog 12 #[.slice aA A.length cA, .int .u64 (d.1 : Int)] W fun e w' => e = .returned (.int .u64 (getN A d.1 : Int)) ∧ Below W.heap.size W w') := fun W h => get_any _ A d.1 (by omega) W (Hid.out (kA15.up h))
          have H21 : Hid (∀ W, Below w15.heap.size w15 W → Calls Try.prog 21 #[.slice aA A.length cA, .int .u64 (d.1 : Int)] W fun e w' => e = .returned (.int .u64 (getN A d.1 : Int)) ∧ Below W.heap.size W w') := fun W h => (refGet_any _ A d.1 (by omega) W (Hid.out (kA15.up h))).mono (fun e w' q => ⟨q.1, q.2 ▸ Below.refl _ _⟩)
          have H16 : Hid (∀ W, Below w15.heap.size w15 W → Calls Try.prog 16 #[.slice aA A.length cA, dotV d] W fun e w' => e = .returned (.bool (covers A d)) ∧ Below W.heap.size W w') := fun W h => covers_any _ A d (by omega) W (Hid.out (kA15.up h))
          have H22 : Hid (∀ W, Below w15.heap.size w15 W → Calls Try.prog 22 #[.slice aA A.length cA, dotV d] W fun e w' => e = .returned (.bool (covers A d)) ∧ Below W.heap.size W w') := fun W h => refCovers_any _ A d (by omega) W (Hid.out (kA15.up h))
          have H23 : Hid (∀ W, Below w15.heap.size w15 W → Calls Try.prog 23 #[.slice aA A.length cA, .slice aB B.length cB] W fun e w' => e = .returned (.int .i64 (cmpV A B)) ∧ Below W.heap.size W w') := fun W h => compare_clk _ _ A B (by omega) W (Hid.out (kA15.up h)) (Hid.out (kB15.up h))
          have H24 : Hid (∀ W, Below w15.heap.size w15 W → Calls Try.prog 24 #[.slice aA A.length cA, .slice aB B.length cB] W fun e w' => e = .returned (.int .i64 (cmpV A B)) ∧ Below W.heap.size W w') := fun W h => refCompare_any _ _ A B (by omega) (by omega) W (Hid.out (kA15.up h)) (Hid.out (kB15.up h))
          have H25 : Hid (∀ W, Below w15.heap.size w15 W → Calls Try.prog 25 #[.slice aA A.length cA, .slice aB B.length cB] W fun e w' => e = .returned (.bool (cmpV A B == 0)) ∧ Below W.heap.size W w') := fun W h => sameC_any _ _ A B (by omega) W (Hid.out (kA15.up h)) (Hid.out (kB15.up h))
          have H26 : Hid (∀ W, Below w15.heap.size w15 W → Calls Try.prog 26 #[.slice aA A.length cA, .slice aB B.length cB] W fun e w' => e = .returned (.bool (cmpV A B == 0)) ∧ Below W.heap.size W w') := fun W h => refSame_any _ _ A B (by omega) (by omega) W (Hid.out (kA15.up h)) (Hid.out (kB15.up h))
          have H15 : Hid (∀ W, Below w15.heap.size w15 W → Calls Try.prog 15 #[.slice aA A.length cA, .int .u64 (d.1 : Int)] W fun e w' => e = .returned (dotV (d.1, nextN A d.1)) ∧ Below W.heap.size W w') := fun W h => next_any _ A d.1 (by omega) (hfA.get _) W (Hid.out (kA15.up h))
          have H27 : Hid (∀ W, Below w15.heap.size w15 W → Calls Try.prog 27 #[.slice aA A.length cA, .int .u64 (d.1 : Int)] W fun e w' => e = .returned (dotV (d.1, nextN A d.1)) ∧ Below W.heap.size W w') := fun W h => refNext_any _ A d.1 (by omega) (hfA.get _) W (Hid.out (kA15.up h))
          have x0 := hD15.at 0 _ rfl
          have x1 := hD15.at 1 _ rfl
          have hDl : w.heap.size < w15.heap.size := hD15.lt
          have hq := fun W => eql_dot (d.1, nextN A d.1) (d.1, nextN A d.1) W
          simp only [decide_true] at hq
          have b1315 := below_trans b13 (below_trans b14 b15)
          clear b13 b14 b15 kA15 kB15 hD15 hfA l1 l3 g1 g3 hi hj hge jge hA hB
          generalize getN A d.1 = G at *
          generalize covers A d = cv at *
          generalize cmpV A B = cx at *
          generalize (cx == 0) = ce at *
          generalize nextN A d.1 = nx at *
          have bk : Below w15.heap.size w15 w15.drew := (Below.refl _ w15).drew
          go_region_held3 (fun w' => w'.cell? ⟨w.heap.size, 0, none⟩ = some (.int .u64 (d.1 : Int)) ∧ w'.cell? ⟨w.heap.size, 1, none⟩ = some (.int .u64 (d.2 : Int))) (go_keep) (first
            | (go_at_call 12; refine (H12.out _ bk).mono ?_; rintro e w9 ⟨rfl, b9⟩; replace bk := below_trans bk b9; have s0 : w9.cell? ⟨w.heap.size, 0, none⟩ = some (.int .u64 (d.1 : Int)) := (bk.cell (p := ⟨w.heap.size, 0, none⟩) hDl).trans x0; have s1 : w9.cell? ⟨w.heap.size, 1, none⟩ = some (.int .u64 (d.2 : Int)) := (bk.cell (p := ⟨w.heap.size, 1, none⟩) hDl).trans x1; clear b9)
            | (go_at_call 21; refine (H21.out _ bk).mono ?_; rintro e w9 ⟨rfl, b9⟩; replace bk := below_trans bk b9; have s0 : w9.cell? ⟨w.heap.size, 0, none⟩ = some (.int .u64 (d.1 : Int)) := (bk.cell (p := ⟨w.heap.size, 0, none⟩) hDl).trans x0; have s1 : w9.cell? ⟨w.heap.size, 1, none⟩ = some (.int .u64 (d.2 : Int)) := (bk.cell (p := ⟨w.heap.size, 1, none⟩) hDl).trans x1; clear b9)
            | (go_at_call 16; refine (H16.out _ bk).mono ?_; rintro e w9 ⟨rfl, b9⟩; replace bk := below_trans bk b9; have s0 : w9.cell? ⟨w.heap.size, 0, none⟩ = some (.int .u64 (d.1 : Int)) := (bk.cell (p := ⟨w.heap.size, 0, none⟩) hDl).trans x0; have s1 : w9.cell? ⟨w.heap.size, 1, none⟩ = some (.int .u64 (d.2 : Int)) := (bk.cell (p := ⟨w.heap.size, 1, none⟩) hDl).trans x1; clear b9)
            | (go_at_call 22; refine (H22.out _ bk).mono ?_; rintro e w9 ⟨rfl, b9⟩; replace bk := below_trans bk b9; have s0 : w9.cell? ⟨w.heap.size, 0, none⟩ = some (.int .u64 (d.1 : Int)) := (bk.cell (p := ⟨w.heap.size, 0, none⟩) hDl).trans x0; have s1 : w9.cell? ⟨w.heap.size, 1, none⟩ = some (.int .u64 (d.2 : Int)) := (bk.cell (p := ⟨w.heap.size, 1, none⟩) hDl).trans x1; clear b9)
            | (go_at_call 23; refine (H23.out _ bk).mono ?_; rintro e w9 ⟨rfl, b9⟩; replace bk := below_trans bk b9; have s0 : w9.cell? ⟨w.heap.size, 0, none⟩ = some (.int .u64 (d.1 : Int)) := (bk.cell (p := ⟨w.heap.size, 0, none⟩) hDl).trans x0; have s1 : w9.cell? ⟨w.heap.size, 1, none⟩ = some (.int .u64 (d.2 : Int)) := (bk.cell (p := ⟨w.heap.size, 1, none⟩) hDl).trans x1; clear b9)
            | (go_at_call 24; refine (H24.out _ bk).mono ?_; rintro e w9 ⟨rfl, b9⟩; replace bk := below_trans bk b9; have s0 : w9.cell? ⟨w.heap.size, 0, none⟩ = some (.int .u64 (d.1 : Int)) := (bk.cell (p := ⟨w.heap.size, 0, none⟩) hDl).trans x0; have s1 : w9.cell? ⟨w.heap.size, 1, none⟩ = some (.int .u64 (d.2 : Int)) := (bk.cell (p := ⟨w.heap.size, 1, none⟩) hDl).trans x1; clear b9)
            | (go_at_call 25; refine (H25.out _ bk).mono ?_; rintro e w9 ⟨rfl, b9⟩; replace bk := below_trans bk b9; have s0 : w9.cell? ⟨w.heap.size, 0, none⟩ = some (.int .u64 (d.1 : Int)) := (bk.cell (p := ⟨w.heap.size, 0, none⟩) hDl).trans x0; have s1 : w9.cell? ⟨w.heap.size, 1, none⟩ = some (.int .u64 (d.2 : Int)) := (bk.cell (p := ⟨w.heap.size, 1, none⟩) hDl).trans x1; clear b9)
            | (go_at_call 26; refine (H26.out _ bk).mono ?_; rintro e w9 ⟨rfl, b9⟩; replace bk := below_trans bk b9; have s0 : w9.cell? ⟨w.heap.size, 0, none⟩ = some (.int .u64 (d.1 : Int)) := (bk.cell (p := ⟨w.heap.size, 0, none⟩) hDl).trans x0; have s1 : w9.cell? ⟨w.heap.size, 1, none⟩ = some (.int .u64 (d.2 : Int)) := (bk.cell (p := ⟨w.heap.size, 1, none⟩) hDl).trans x1; clear b9)
            | (go_at_call 15; refine (H15.out _ bk).mono ?_; rintro e w9 ⟨rfl, b9⟩; replace bk := below_trans bk b9; have s0 : w9.cell? ⟨w.heap.size, 0, none⟩ = some (.int .u64 (d.1 : Int)) := (bk.cell (p := ⟨w.heap.size, 0, none⟩) hDl).trans x0; have s1 : w9.cell? ⟨w.heap.size, 1, none⟩ = some (.int .u64 (d.2 : Int)) := (bk.cell (p := ⟨w.heap.size, 1, none⟩) hDl).trans x1; clear b9)
            | (go_at_call 27; refine (H27.out _ bk).mono ?_; rintro e w9 ⟨rfl, b9⟩; replace bk := below_trans bk b9; have s0 : w9.cell? ⟨w.heap.size, 0, none⟩ = some (.int .u64 (d.1 : Int)) := (bk.cell (p := ⟨w.heap.size, 0, none⟩) hDl).trans x0; have s1 : w9.cell? ⟨w.heap.size, 1, none⟩ = some (.int .u64 (d.2 : Int)) := (bk.cell (p := ⟨w.heap.size, 1, none⟩) hDl).trans x1; clear b9))
          all_goals
            go_wp2
            go_ret
            exact ⟨rfl, below_trans b1315 bk⟩
end Go.Proofs.Ytbmeflildmeecaa
