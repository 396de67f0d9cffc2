/- The law RingAsked. -/
import Derived.Test.YtlliijodilnlgaaRgAwake
import Derived.Deep.QuietTactic
import Derived.BigQuiet
namespace Go.Proofs.Ytlliijodilnlgaa
open Go.RowKit

theorem count_take (l : List Int) (p : Int → Bool) (k : Nat) (x : Int) (h : l[k]? = some x) : (l.take (k + 1)).countP p = (l.take k).countP p + (if p x then 1 else 0) := by
  rw [List.take_add_one, h, List.countP_append]; simp [List.countP_cons]
theorem drewN_same {w W : World} (h : ∃ q, W = w.drewN q) (n : Nat) : ∃ q, W.drewN n = w.drewN q := by
  obtain ⟨q, rfl⟩ := h
  exact ⟨q + n, World.drewN_drewN ..⟩
theorem asked_w2 {w w0 w2 : World} {M : Nat} {o : List Int} {x y z : Value} (h0 : Anew M w w0 (intV o) 23) (b2 : Below (w0.alloc (.cells #[x, y, z] 37)).heap.size (w0.alloc (.cells #[x, y, z] 37)) w2) :
    Below M w w2 ∧ Holds w2 M (intV o) 23 ∧ Holds w2 (M + 1) [x, y, z] 37 ∧ M + 2 ≤ w2.heap.size := by
  have hz0 := h0.size
  have hz1 : (w0.alloc (.cells #[x, y, z] 37)).heap.size = M + 2 := by simp [hz0]
  have Q1 : Holds (w0.alloc (.cells #[x, y, z] 37)) (M + 1) [x, y, z] 37 := by
    rw [← hz0]; exact holds_new w0 _ _
  rw [hz1] at b2
  refine ⟨(h0.below.trans ((Below.refl _ _).alloc (by omega) _)).trans (b2.mono (by omega)), (h0.holds.alloc _).below b2 (by omega), Q1.below b2 (by omega), ?_⟩
  have := b2.size
  omega
set_option maxHeartbeats 1500000 in
set_option maxRecDepth 100000 in
theorem asked_any (B : Nat) (o : List Int) (ho : o.length = 8) (p n : Int) (u : Value) (up : List Int) (w : World) (hu : Ints B w u up) (hB : B ≤ w.heap.size) (hul : up.length ≤ 9223372036854775807) :
    Calls Try.prog 5 #[.agg (intV o).toArray, .agg #[.int .i64 p, .int .i64 n, u]] w fun e w' => e = .returned (.bool true) ∧ Below w.heap.size w w' := by
  obtain ⟨M, hM⟩ : ∃ M, w.heap.size = M := ⟨_, rfl⟩
  rw [hM] at hB ⊢
  obtain ⟨s1, s2, s3, s4⟩ := sloppy_facts o p n up
  have HO : Hid (o.length = 8) := ho
  have HSl : Hid (∀ W, Below M w W → Calls Try.prog 14 #[.agg (intV o).toArray, .int .i64 p, .int .i64 n, u] W fun e w' => ∃ v, e = .returned v ∧ w'.ownsRow W.heap.size 43 2 v (sloppyL o p n up).length (tgtV (sloppyL o p n up)) ∧ Below W.heap.size W w') := fun W hW => sloppy_any B o ho p n u up W (hu.below (hW.mono hB)) (by have := hW.size; omega) hul
  have HPr : Hid (∀ W, Calls Try.prog 15 #[.agg (intV o).toArray, .int .i64 p, .int .i64 n] W fun e w' => ∃ v, e = .returned v ∧ Ints w'.heap.size w' v (primL o p n) ∧ Below W.heap.size W w') := fun W => primaries_any o ho p n W
  have HAl : Hid (∀ W, Calls Try.prog 15 #[.agg (intV o).toArray, .int .i64 p, .int .i64 8] W fun e w' => ∃ v, e = .returned v ∧ Ints w'.heap.size w' v (walkL o p) ∧ Below W.heap.size W w') := fun W => by
    have := primaries_any o ho p 8 W
    rwa [primL_all] at this
  have hwl := walkL_len o p
  have hfl : (primL o p n).length ≤ 8 := by rw [primL_len]; have := cutN_le n (walkL o p); omega
  have HU : Hid (∀ W x, Below M w W → Calls Try.prog 16 #[u, .int .i64 x] W fun e w' => e = .returned (.bool (up.contains x)) ∧ w' = W) := fun W x hW => in_any B u up x W (hu.below (hW.mono hB)) hul
  generalize sloppyL o p n up = L at s1 s2 s3 s4 HSl
  generalize primL o p n = F at s1 s2 HPr hfl
  generalize walkL o p = A at s1 HAl hwl
  obtain ⟨ua, uc, rfl⟩ := hu.len
  generalize up.length = ul at hul HSl HU ⊢
  clear hu ho
  go_enter Try.func5, Try.ntmps5
  go_wp2_with (first
    | (refine wpList_box_new 2 rfl rfl 23 _ rfl M hM _ rfl ?_; intro w0 h0; have hz0 : w0.heap.size = M + 1 := h0.size)
    | (go_at_call 7; refine (awake_any _).mono ?_; rintro e w2 ⟨rfl, b2⟩; obtain ⟨b02, H2, Q2, hz2⟩ := asked_w2 h0 b2; clear h0 hz0 b2; have q0 := Q2.at 0 _ rfl; have q1 := Q2.at 1 _ rfl; have q2 := Q2.at 2 _ rfl)
    | (refine wpList_load_all rfl 23 _ rfl _ rfl 23 (intV o) 8 3 H2 und23 (by rw [siz23, intV_len, HO.out]) ?_)
    | (go_at_call 14; refine (HSl.out w2 b02).mono ?_; rintro e w3 ⟨v3, rfl, O3, b3⟩; have hz3 : w2.heap.size ≤ w3.heap.size := b3.size; have H3 := H2.below b3 (by omega); have Q3 := Q2.below b3 (by omega); clear H2 Q2 q0 q1 q2; have r0 := Q3.at 0 _ rfl; have r1 := Q3.at 1 _ rfl)
    | (refine wpList_load_all rfl 23 _ rfl _ rfl 23 (intV o) 8 3 H3 und23 (by rw [siz23, intV_len, HO.out]) ?_)
    | (go_at_call 15; refine (HPr.out w3).mono ?_; rintro e w4 ⟨v4, rfl, I4, b4⟩; have hz4 : w3.heap.size ≤ w4.heap.size := b4.size; have H4 := H3.below b4 (by omega); have Q4 := Q3.below b4 (by omega); clear HPr H3 Q3 r0 r1; have t0 := Q4.at 0 _ rfl)
    | (refine wpList_load_all rfl 23 _ rfl _ rfl 23 (intV o) 8 3 H4 und23 (by rw [siz23, intV_len, HO.out]) ?_)
    | (go_at_call 15; refine (HAl.out w4).mono ?_; rintro e w5 ⟨v5, rfl, I5, b5⟩))
  obtain ⟨b35, HH⟩ : Below w3.heap.size w3 w5 ∧ Below w4.heap.size w4 w5 := ⟨b4.trans (b5.mono b4.size), b5⟩
  have b05 : Below M w w5 := (b02.trans (b3.mono (by omega))).trans (b35.mono (by omega))
  have Q5 := Q4.below b5 (by omega)
  have I4' : Ints w5.heap.size w5 v4 F := (I4.below b5).mono b5.size
  have hz5 : w3.heap.size ≤ w5.heap.size := b35.size
  have hRow : ∀ (k : Nat) (e : Int × Int), L[k]? = some e → ∃ g c, v3 = .slice (some ⟨g, 0, none⟩) L.length c ∧ w5.cell? ⟨g, k * 2, none⟩ = some (.int .i64 e.1) ∧ w5.cell? ⟨g, k * 2 + 1, none⟩ = some (.int .i64 e.2) := fun k e he => by
    have hk : k < L.length := (List.getElem?_eq_some_iff.1 he).1
    obtain ⟨g, c, e1, _, hg, hc⟩ := row_cells O3 (by omega)
    obtain ⟨t1, t2⟩ := tgtV_at L k e he
    refine ⟨g, c, e1, ?_, ?_⟩
    · rw [World.cell?_of_block (w := w3) (b35.block g hg), hc (k * 2) (by omega)]; exact t1
    · rw [World.cell?_of_block (w := w3) (b35.block g hg), hc (k * 2 + 1) (by omega)]; exact t2
  obtain ⟨a3, c3, rfl⟩ := row_slice O3
  obtain ⟨a4, c4, rfl⟩ := I4'.len
  obtain ⟨a5, c5, rfl⟩ := I5.len
  have HRow : Hid (∀ (k : Nat) (e : Int × Int), L[k]? = some e → ∃ g, a3 = some ⟨g, 0, none⟩ ∧ w5.cell? ⟨g, k * 2, none⟩ = some (.int .i64 e.1) ∧ w5.cell? ⟨g, k * 2 + 1, none⟩ = some (.int .i64 e.2)) := fun k e he => by
    obtain ⟨g, c, e1, h1, h2⟩ := hRow k e he
    obtain ⟨q1, -, -⟩ := Value.slice.inj e1
    exact ⟨g, q1, h1, h2⟩
  have HQ5 : Hid (∀ q, (w5.drewN q).cell? ⟨M + 1, 2, none⟩ = some (.slice ua ul uc)) := fun q => (Q5.drewN q).at 2 _ rfl
  have HI5 : Hid (Ints w5.heap.size w5 (.slice a5 A.length c5) A) := I5
  have HUp : Hid (∀ q x, Calls Try.prog 16 #[.slice ua ul uc, .int .i64 x] (w5.drewN q) fun e w' => e = .returned (.bool (up.contains x)) ∧ w' = w5.drewN q) := fun q x => HU.out _ x (b05.trans (below_drewN M w5 q))
  have HFi : Hid (∀ q x, Calls Try.prog 16 #[.slice a4 F.length c4, .int .i64 x] (w5.drewN q) fun e w' => e = .returned (.bool (F.contains x)) ∧ w' = w5.drewN q) := fun q x => in_any _ _ F x _ (ints_drewN q I4') (by omega)
  have HB5 : Hid (Below M w w5) := b05
  have S1 : Hid (L.length = min F.length (A.countP (up.contains ·))) := s1
  have S2 : Hid (∀ e ∈ L, up.contains e.1 = true ∧ F.contains e.2 = true ∧ F.contains e.1 = decide (e.1 = e.2)) := s2
  have S3 : Hid ((L.map Prod.fst).Nodup ∧ (L.map Prod.snd).Nodup) := ⟨s3, s4⟩
  obtain ⟨al, hal⟩ : ∃ al, A.length = al := ⟨_, rfl⟩
  obtain ⟨fl, hfll⟩ : ∃ fl, F.length = fl := ⟨_, rfl⟩
  obtain ⟨ll, hll⟩ : ∃ ll, L.length = ll := ⟨_, rfl⟩
  rw [hal] at HI5 hwl ⊢
  rw [hfll] at HFi hfl S1 ⊢
  rw [hll] at S1 ⊢
  have HAL : Hid (A.length = al) := hal
  have HLL : Hid (L.length = ll) := hll
  clear hal hfll hll s1 s2 s3 s4 b02 b3 b4 b5 b05 b35 HH I4 I4' I5 Q4 Q5 H4 t0 O3 hRow HU HSl HAl hz5 hz4 hz3 hz2 hul
  go_loopw [9, 10] (fun t c wr => ∃ k q : Nat, k ≤ al ∧ c = .int .i64 (k : Int) ∧ t = .int .i64 (((A.take k).countP (up.contains ·) : Nat) : Int) ∧ wr = w5.drewN q) (fun _ c _ => al - (intOf c).toNat)
  case atStart => exact ⟨0, 0, by omega, rfl, rfl, rfl⟩
  case round =>
  obtain ⟨k, q, hk, rfl, rfl, rfl⟩ := hrel
  by_cases hlt : k < al
  · obtain ⟨x, hx⟩ : ∃ x, A[k]? = some x := ⟨_, List.getElem?_eq_getElem (by rw [HAL.out]; exact hlt)⟩
    obtain ⟨g, of_, rfl, hcell⟩ := (ints_drewN q HI5.out).cell k x hx
    have hcnt := count_take A (up.contains ·) k x hx
    have hle : (A.take k).countP (up.contains ·) ≤ k := Nat.le_trans List.countP_le_length (by simp; omega)
    generalize (A.take k).countP (up.contains ·) = cn at hcnt hle ⊢
    have i0 : (0 : Int) ≤ (k : Int) := by omega
    have i1 : (k : Int) < (al : Int) := by omega
    have hq2 := HQ5.out q
    have hC : Hid (∀ m, Calls Try.prog 16 #[.slice ua ul uc, .int .i64 x] ((w5.drewN q).drewN m) fun e w' => e = .returned (.bool (up.contains x)) ∧ w' = (w5.drewN q).drewN m) := fun m => by
      rw [World.drewN_drewN]; exact HUp.out _ x
    have HW : Hid (∀ m, (w5.drewN q).drewN m = w5.drewN (q + m)) := fun m => World.drewN_drewN ..
    cases hcx : up.contains x with
    | true =>
      rw [hcx] at hC
      have hst : Hid ((A.take (k + 1)).countP (up.contains ·) = cn + 1) := by
        show _ = _
        rw [hcnt, if_pos hcx]
      clear hcnt hx hcx
      generalize w5.drewN q = W at *
      go_wp2_with fail
      go_quiet (first | (go_at_call 16; exact Calls.quiet_of_same (hC.out _)))
      go_wp2
      exact ⟨⟨k + 1, q + nq, by omega, by go_num, by rw [hst.out]; go_num, HW.out _⟩, by simp [intOf]; omega⟩
    | false =>
      rw [hcx] at hC
      have hst : Hid ((A.take (k + 1)).countP (up.contains ·) = cn) := by
        show _ = _
        rw [hcnt, if_neg (by rw [hcx]; simp), Nat.add_zero]
      clear hcnt hx hcx
      generalize w5.drewN q = W at *
      go_wp2_with fail
      go_quiet (first | (go_at_call 16; exact Calls.quiet_of_same (hC.out _)))
      go_wp2
      exact ⟨⟨k + 1, q + nq, by omega, by go_num, by rw [hst.out], HW.out _⟩, by simp [intOf]; omega⟩
  · have eA : A.take k = A := List.take_of_length_le (by rw [HAL.out]; omega)
    rw [eA]
    have i1 : ¬ (k : Int) < (al : Int) := by omega
    have S1' := S1.out
    generalize A.countP (up.contains ·) = th at S1' ⊢
    clear S1 eA hlt
    rcases Nat.lt_or_ge th fl with hth | hth
    · have e1 : ll = th := by omega
      have hlt' : (th : Int) < (fl : Int) := by omega
      subst e1
      clear S1' hth
      go_wp2
      go_loopw [13] (fun c wr => ∃ k q : Nat, k ≤ ll ∧ c = .int .i64 (k : Int) ∧ wr = w5.drewN q) (fun c _ => ll - (intOf c).toNat)
      case atStart => exact ⟨0, q, by omega, rfl, rfl⟩
      case round =>
      obtain ⟨k2, q2, hk2, rfl, rfl⟩ := hrel
      by_cases hl2 : k2 < ll
      · obtain ⟨e, he⟩ : ∃ e, L[k2]? = some e := ⟨_, List.getElem?_eq_getElem (by rw [HLL.out]; exact hl2)⟩
        obtain ⟨g, rfl, c1, c2⟩ := HRow.out k2 e he
        obtain ⟨f1, f2, f3⟩ := S2.out e (List.mem_of_getElem? he)
        have d1 : ∀ m, (w5.drewN m).cell? ⟨g, k2 * 2, none⟩ = some (.int .i64 e.1) := fun m => by rw [World.cell?_of_block (w := w5) (by simp)]; exact c1
        have d2 : ∀ m, (w5.drewN m).cell? ⟨g, k2 * 2 + 1, none⟩ = some (.int .i64 e.2) := fun m => by rw [World.cell?_of_block (w := w5) (by simp)]; exact c2
        have i0 : (0 : Int) ≤ (k2 : Int) := by omega
        have i1 : (k2 : Int) < (ll : Int) := by omega
        have hC1 : Hid (∀ m, Calls Try.prog 16 #[.slice ua ul uc, .int .i64 e.1] (w5.drewN m) fun e w' => e = .returned (.bool true) ∧ w' = w5.drewN m) := fun m => by
          have := HUp.out m e.1
          rwa [f1] at this
        have hC2 : Hid (∀ m, Calls Try.prog 16 #[.slice a4 fl c4, .int .i64 e.2] (w5.drewN m) fun e w' => e = .returned (.bool true) ∧ w' = w5.drewN m) := fun m => by
          have := HFi.out m e.2
          rwa [f2] at this
        have hC3 : Hid (∀ m, Calls Try.prog 16 #[.slice a4 fl c4, .int .i64 e.1] (w5.drewN m) fun e' w' => e' = .returned (.bool (decide (e.1 = e.2))) ∧ w' = w5.drewN m) := fun m => by
          have := HFi.out m e.1
          rwa [f3] at this
        have HE : Hid (L[k2]? = some e) := he
        obtain ⟨x, y⟩ := e
        dsimp only at d1 d2 hC1 hC2 hC3
        clear he f1 f2 f3 c1 c2
        have hq3 := HQ5.out q2
        have HD : Hid (∀ m, (w5.drewN q2).drewN m = w5.drewN (q2 + m)) := fun m => World.drewN_drewN ..
        have hC1' : Hid (∀ m, Calls Try.prog 16 #[.slice ua ul uc, .int .i64 x] ((w5.drewN q2).drewN m) fun e w' => e = .returned (.bool true) ∧ w' = (w5.drewN q2).drewN m) := fun m => by rw [HD.out]; exact hC1.out _
        have d1q := d1 q2
        have D1 : Hid (∀ m, (w5.drewN m).cell? ⟨g, k2 * 2, none⟩ = some (.int .i64 x)) := d1
        have D2 : Hid (∀ m, (w5.drewN m).cell? ⟨g, k2 * 2 + 1, none⟩ = some (.int .i64 y)) := d2
        clear d1 d2 hC1
        generalize w5.drewN q2 = W at HD hC1' d1q hq3 ⊢
        go_wp2_with fail
        go_quiet (first | (go_at_call 16; exact Calls.quiet_of_same (hC1'.out _)))
        rw [HD.out]
        generalize q2 + nq = q4
        clear nq
        have e1q := D1.out q4
        have e2q := D2.out q4
        have hE2 : Hid (Calls Try.prog 16 #[.slice a4 fl c4, .int .i64 y] (w5.drewN q4) fun e w' => e = .returned (.bool true) ∧ w' = w5.drewN q4) := hC2.out _
        have hE3 : Hid (Calls Try.prog 16 #[.slice a4 fl c4, .int .i64 x] (w5.drewN q4) fun e w' => e = .returned (.bool (x == y)) ∧ w' = w5.drewN q4) := by
          have h := hC3.out q4
          rwa [show decide (x = y) = (x == y) by by_cases hq : x = y <;> simp [hq]] at h
        have HD2 : Hid (∀ m, (w5.drewN q4).drewN m = w5.drewN (q4 + m)) := fun m => World.drewN_drewN ..
        clear hC2 hC3 HD hC1' d1q hq3 W
        generalize hW3 : w5.drewN q4 = W3 at HD2 hE2 hE3 e1q e2q ⊢
        have HW3 : Hid (w5.drewN q4 = W3) := hW3
        clear hW3
        go_wp2_with (first
          | (go_at_call 16; refine hE2.out.mono ?_; rintro e w7 ⟨rfl, rfl⟩; clear hE2)
          | (go_at_call 16; refine hE3.out.mono ?_; rintro e w7 ⟨rfl, rfl⟩))
        have hcc : ((x == y) == (x == y)) = true := by simp
        go_quiet (fail)
        rw [HD2.out]
        clear e1q e2q HD2 hE3
        generalize q4 + nq = q3
        clear HW3 w7
        go_wp2_with fail
        go_loopw [17] (fun c wr => ∃ j r : Nat, j ≤ k2 ∧ c = .int .i64 (j : Int) ∧ wr = w5.drewN r) (fun c _ => k2 - (intOf c).toNat)
        case atStart => exact ⟨0, q3, by omega, rfl, rfl⟩
        case round =>
        obtain ⟨j, r, hj, rfl, rfl⟩ := hrel
        by_cases hjk : j < k2
        · obtain ⟨e', he'⟩ : ∃ e, L[j]? = some e := ⟨_, List.getElem?_eq_getElem (by rw [HLL.out]; omega)⟩
          obtain ⟨g', eg, c1, c2⟩ := HRow.out j e' he'
          cases eg
          have n1 : ¬ e'.1 = x := fun q => by
            have h1 : (L.map Prod.fst)[j]? = some x := by rw [List.getElem?_map, he', ← q]; rfl
            have h2 : (L.map Prod.fst)[k2]? = some x := by rw [List.getElem?_map, HE.out]; rfl
            obtain ⟨j1, j2⟩ := List.getElem?_eq_some_iff.1 h1
            obtain ⟨k1, k3⟩ := List.getElem?_eq_some_iff.1 h2
            exact (List.pairwise_iff_getElem.1 S3.out.1 j k2 j1 k1 hjk) (by rw [j2, k3])
          have n2 : ¬ e'.2 = y := fun q => by
            have h1 : (L.map Prod.snd)[j]? = some y := by rw [List.getElem?_map, he', ← q]; rfl
            have h2 : (L.map Prod.snd)[k2]? = some y := by rw [List.getElem?_map, HE.out]; rfl
            obtain ⟨j1, j2⟩ := List.getElem?_eq_some_iff.1 h1
            obtain ⟨k1, k3⟩ := List.getElem?_eq_some_iff.1 h2
            exact (List.pairwise_iff_getElem.1 S3.out.2 j k2 j1 k1 hjk) (by rw [j2, k3])
          have p1 : (w5.drewN r).cell? ⟨g, j * 2, none⟩ = some (.int .i64 e'.1) := by rw [World.cell?_of_block (w := w5) (by simp)]; exact c1
          have p2 : (w5.drewN r).cell? ⟨g, j * 2 + 1, none⟩ = some (.int .i64 e'.2) := by rw [World.cell?_of_block (w := w5) (by simp)]; exact c2
          have p3 := D1.out r
          have p4 := D2.out r
          obtain ⟨x', y'⟩ := e'
          dsimp only at p1 p2 n1 n2
          have m1 : (x' == x) = false := by simpa using n1
          have m2 : (y' == y) = false := by simpa using n2
          have j0 : (0 : Int) ≤ (j : Int) := by omega
          have j1 : (j : Int) < (ll : Int) := by omega
          have j2 : (j : Int) < (k2 : Int) := by omega
          have HD3 : Hid (∀ m, (w5.drewN r).drewN m = w5.drewN (r + m)) := fun m => World.drewN_drewN ..
          clear he' c1 c2
          generalize w5.drewN r = W4 at HD3 p1 p2 p3 p4 ⊢
          go_wp2_with fail
          go_quiet (fail)
          rw [HD3.out]
          go_wp2
          exact ⟨⟨j + 1, _, by omega, by go_num, rfl⟩, by simp [intOf]; omega⟩
        · have ej : j = k2 := by omega
          have j2 : ¬ (j : Int) < (k2 : Int) := by omega
          go_wp2
          exact ⟨⟨k2 + 1, r, by omega, by go_num, rfl⟩, by simp [intOf]; omega⟩
      · have i2 : ¬ (k2 : Int) < (ll : Int) := by omega
        go_wp2
        go_ret
        exact ⟨rfl, HB5.out.trans (below_drewN M w5 q2)⟩
    · have e1 : ll = fl := by omega
      have hlt' : ¬ (th : Int) < (fl : Int) := by omega
      subst e1
      clear S1' hth
      go_wp2
      go_loopw [13] (fun c wr => ∃ k q : Nat, k ≤ ll ∧ c = .int .i64 (k : Int) ∧ wr = w5.drewN q) (fun c _ => ll - (intOf c).toNat)
      case atStart => exact ⟨0, q, by omega, rfl, rfl⟩
      case round =>
      obtain ⟨k2, q2, hk2, rfl, rfl⟩ := hrel
      by_cases hl2 : k2 < ll
      · obtain ⟨e, he⟩ : ∃ e, L[k2]? = some e := ⟨_, List.getElem?_eq_getElem (by rw [HLL.out]; exact hl2)⟩
        obtain ⟨g, rfl, c1, c2⟩ := HRow.out k2 e he
        obtain ⟨f1, f2, f3⟩ := S2.out e (List.mem_of_getElem? he)
        have d1 : ∀ m, (w5.drewN m).cell? ⟨g, k2 * 2, none⟩ = some (.int .i64 e.1) := fun m => by rw [World.cell?_of_block (w := w5) (by simp)]; exact c1
        have d2 : ∀ m, (w5.drewN m).cell? ⟨g, k2 * 2 + 1, none⟩ = some (.int .i64 e.2) := fun m => by rw [World.cell?_of_block (w := w5) (by simp)]; exact c2
        have i0 : (0 : Int) ≤ (k2 : Int) := by omega
        have i1 : (k2 : Int) < (ll : Int) := by omega
        have hC1 : Hid (∀ m, Calls Try.prog 16 #[.slice ua ul uc, .int .i64 e.1] (w5.drewN m) fun e w' => e = .returned (.bool true) ∧ w' = w5.drewN m) := fun m => by
          have := HUp.out m e.1
          rwa [f1] at this
        have hC2 : Hid (∀ m, Calls Try.prog 16 #[.slice a4 ll c4, .int .i64 e.2] (w5.drewN m) fun e w' => e = .returned (.bool true) ∧ w' = w5.drewN m) := fun m => by
          have := HFi.out m e.2
          rwa [f2] at this
        have hC3 : Hid (∀ m, Calls Try.prog 16 #[.slice a4 ll c4, .int .i64 e.1] (w5.drewN m) fun e' w' => e' = .returned (.bool (decide (e.1 = e.2))) ∧ w' = w5.drewN m) := fun m => by
          have := HFi.out m e.1
          rwa [f3] at this
        have HE : Hid (L[k2]? = some e) := he
        obtain ⟨x, y⟩ := e
        dsimp only at d1 d2 hC1 hC2 hC3
        clear he f1 f2 f3 c1 c2
        have hq3 := HQ5.out q2
        have HD : Hid (∀ m, (w5.drewN q2).drewN m = w5.drewN (q2 + m)) := fun m => World.drewN_drewN ..
        have hC1' : Hid (∀ m, Calls Try.prog 16 #[.slice ua ul uc, .int .i64 x] ((w5.drewN q2).drewN m) fun e w' => e = .returned (.bool true) ∧ w' = (w5.drewN q2).drewN m) := fun m => by rw [HD.out]; exact hC1.out _
        have d1q := d1 q2
        have D1 : Hid (∀ m, (w5.drewN m).cell? ⟨g, k2 * 2, none⟩ = some (.int .i64 x)) := d1
        have D2 : Hid (∀ m, (w5.drewN m).cell? ⟨g, k2 * 2 + 1, none⟩ = some (.int .i64 y)) := d2
        clear d1 d2 hC1
        generalize w5.drewN q2 = W at HD hC1' d1q hq3 ⊢
        go_wp2_with fail
        go_quiet (first | (go_at_call 16; exact Calls.quiet_of_same (hC1'.out _)))
        rw [HD.out]
        generalize q2 + nq = q4
        clear nq
        have e1q := D1.out q4
        have e2q := D2.out q4
        have hE2 : Hid (Calls Try.prog 16 #[.slice a4 ll c4, .int .i64 y] (w5.drewN q4) fun e w' => e = .returned (.bool true) ∧ w' = w5.drewN q4) := hC2.out _
        have hE3 : Hid (Calls Try.prog 16 #[.slice a4 ll c4, .int .i64 x] (w5.drewN q4) fun e w' => e = .returned (.bool (x == y)) ∧ w' = w5.drewN q4) := by
          have h := hC3.out q4
          rwa [show decide (x = y) = (x == y) by by_cases hq : x = y <;> simp [hq]] at h
        have HD2 : Hid (∀ m, (w5.drewN q4).drewN m = w5.drewN (q4 + m)) := fun m => World.drewN_drewN ..
        clear hC2 hC3 HD hC1' d1q hq3 W
        generalize hW3 : w5.drewN q4 = W3 at HD2 hE2 hE3 e1q e2q ⊢
        have HW3 : Hid (w5.drewN q4 = W3) := hW3
        clear hW3
        go_wp2_with (first
          | (go_at_call 16; refine hE2.out.mono ?_; rintro e w7 ⟨rfl, rfl⟩; clear hE2)
          | (go_at_call 16; refine hE3.out.mono ?_; rintro e w7 ⟨rfl, rfl⟩))
        have hcc : ((x == y) == (x == y)) = true := by simp
        go_quiet (fail)
        rw [HD2.out]
        clear e1q e2q HD2 hE3
        generalize q4 + nq = q3
        clear HW3 w7
        go_wp2_with fail
        go_loopw [17] (fun c wr => ∃ j r : Nat, j ≤ k2 ∧ c = .int .i64 (j : Int) ∧ wr = w5.drewN r) (fun c _ => k2 - (intOf c).toNat)
        case atStart => exact ⟨0, q3, by omega, rfl, rfl⟩
        case round =>
        obtain ⟨j, r, hj, rfl, rfl⟩ := hrel
        by_cases hjk : j < k2
        · obtain ⟨e', he'⟩ : ∃ e, L[j]? = some e := ⟨_, List.getElem?_eq_getElem (by rw [HLL.out]; omega)⟩
          obtain ⟨g', eg, c1, c2⟩ := HRow.out j e' he'
          cases eg
          have n1 : ¬ e'.1 = x := fun q => by
            have h1 : (L.map Prod.fst)[j]? = some x := by rw [List.getElem?_map, he', ← q]; rfl
            have h2 : (L.map Prod.fst)[k2]? = some x := by rw [List.getElem?_map, HE.out]; rfl
            obtain ⟨j1, j2⟩ := List.getElem?_eq_some_iff.1 h1
            obtain ⟨k1, k3⟩ := List.getElem?_eq_some_iff.1 h2
            exact (List.pairwise_iff_getElem.1 S3.out.1 j k2 j1 k1 hjk) (by rw [j2, k3])
          have n2 : ¬ e'.2 = y := fun q => by
            have h1 : (L.map Prod.snd)[j]? = some y := by rw [List.getElem?_map, he', ← q]; rfl
            have h2 : (L.map Prod.snd)[k2]? = some y := by rw [List.getElem?_map, HE.out]; rfl
            obtain ⟨j1, j2⟩ := List.getElem?_eq_some_iff.1 h1
            obtain ⟨k1, k3⟩ := List.getElem?_eq_some_iff.1 h2
            exact (List.pairwise_iff_getElem.1 S3.out.2 j k2 j1 k1 hjk) (by rw [j2, k3])
          have p1 : (w5.drewN r).cell? ⟨g, j * 2, none⟩ = some (.int .i64 e'.1) := by rw [World.cell?_of_block (w := w5) (by simp)]; exact c1
          have p2 : (w5.drewN r).cell? ⟨g, j * 2 + 1, none⟩ = some (.int .i64 e'.2) := by rw [World.cell?_of_block (w := w5) (by simp)]; exact c2
          have p3 := D1.out r
          have p4 := D2.out r
          obtain ⟨x', y'⟩ := e'
          dsimp only at p1 p2 n1 n2
          have m1 : (x' == x) = false := by simpa using n1
          have m2 : (y' == y) = false := by simpa using n2
          have j0 : (0 : Int) ≤ (j : Int) := by omega
          have j1 : (j : Int) < (ll : Int) := by omega
          have j2 : (j : Int) < (k2 : Int) := by omega
          have HD3 : Hid (∀ m, (w5.drewN r).drewN m = w5.drewN (r + m)) := fun m => World.drewN_drewN ..
          clear he' c1 c2
          generalize w5.drewN r = W4 at HD3 p1 p2 p3 p4 ⊢
          go_wp2_with fail
          go_quiet (fail)
          rw [HD3.out]
          go_wp2
          exact ⟨⟨j + 1, _, by omega, by go_num, rfl⟩, by simp [intOf]; omega⟩
        · have ej : j = k2 := by omega
          have j2 : ¬ (j : Int) < (k2 : Int) := by omega
          go_wp2
          exact ⟨⟨k2 + 1, r, by omega, by go_num, rfl⟩, by simp [intOf]; omega⟩
      · have i2 : ¬ (k2 : Int) < (ll : Int) := by omega
        go_wp2
        go_ret
        exact ⟨rfl, HB5.out.trans (below_drewN M w5 q2)⟩
end Go.Proofs.Ytlliijodilnlgaa
