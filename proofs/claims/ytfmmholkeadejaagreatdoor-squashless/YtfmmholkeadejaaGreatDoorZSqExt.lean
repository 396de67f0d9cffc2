/- A counter's lease is renewed (94). -/
import Derived.Deep.RegionHeld3
import Derived.Test.YtfmmholkeadejaaGreatDoorZS1
import Derived.Test.YtfmmholkeadejaaGreatDoorZC1
namespace Go.Proofs.YtfmmholkeadejaaGreatDoor
open Go.RowKit

theorem DiskAt.setC {w : World} {N : Lo} {d : Nat} {S : Dk} {c : Nat} {cs : List Value} {t : TypeId} (h : DiskAt w N d S) (hc : Holds w c cs t) (h1 : t ≠ 122) (h2 : t ≠ 128) (h3 : t ≠ 5) (i : Nat) (v : Value) : DiskAt (w.setCell ⟨c, i, none⟩ v) N d S := by
  have hk : ∀ (j : Nat) o, w.heap[j]? = some o → (∀ cs' fr, o ≠ Obj.cells cs' t fr) → (w.setCell ⟨c, i, none⟩ v).heap[j]? = w.heap[j]? := fun j o hj ho => by
    refine heap_setCell_other w ⟨c, i, none⟩ j v (fun e => ?_)
    have e : j = c := e
    subst e
    unfold Holds at hc
    rw [hc] at hj
    cases hj
    exact ho _ _ rfl
  obtain ⟨mv, st, A, V, q, hN, hM, hF, hS⟩ := h
  refine ⟨mv, st, A, V, ?_, hN, hM.same (fun j es k hj => hk j _ hj (fun _ _ e => by cases e)), hF.same (fun j cs t fr hj ht => hk j _ hj (fun _ _ e => by simp at e; rcases ht with rfl | rfl; exact h2 e.2.1.symm; exact h3 e.2.1.symm)), hS⟩
  unfold Holds at q ⊢
  rw [hk d _ q (fun cs fr e => by simp at e; exact h1 e.2.1.symm)]; exact q
set_option maxHeartbeats 3200000 in
set_option maxRecDepth 100000 in
theorem extend_any (N : Lo) (d c : Nat) (S : Dk) (nm : ByteArray) (hcn : nameOk (comB (cntB nm)) = true) (hsz : nm.size ≤ 20) (last given t g : Nat) (Et : Int) (ht : t < 18446744073709551616) (hL : LsIs S (cntB nm) t Et) (hg : max last t = g) (hgl : g + 100 < 18446744073709551616) (hlen : S.fs.length < 256) (w : World) (h : DiskAt w N d S) (hG : ∀ i, N.G i → i < w.heap.size) (hc : Holds w c (ctV d nm last given false) 72) :
    Calls Tryz.prog 94 #[.pointer (some ⟨c, 0, none⟩)] w fun e w' => e = .returned (.int .i64 (rnE S (cntB nm) [lsB (g + 100)])) ∧ DiskAt w' N d (rnS S (cntB nm) [lsB (g + 100)]) ∧ Holds w' c (if rnE S (cntB nm) [lsB (g + 100)] = 0 then ctV d nm (g + 100) g false else ctV d nm last given (rnE S (cntB nm) [lsB (g + 100)] != 22)) 72 ∧ CUpd N (fun i => i = c) w w' := by
  have hcs : (cntB nm).size = nm.size + 6 := by unfold cntB; simp [ByteArray.size_append]; rfl
  obtain ⟨n, hn⟩ : ∃ n, w.heap.size = n := ⟨_, rfl⟩
  have hlt := hc.lt
  have h93 : Hid (∀ W, Below w.heap.size w W → Calls Tryz.prog 93 #[.pointer (some ⟨d, 0, none⟩), .string (cntB nm)] W fun e w' => e = .returned (.tuple #[.agg #[.int .u64 (t : Int)], .int .i64 Et]) ∧ Below W.heap.size W w') := fun W hW => leaseIn_any N d S (cntB nm) (by omega) t ht Et hL W (h.below hW)
  have h140 : Hid (∀ W, Calls Tryz.prog 140 #[.agg #[.int .u64 ((g : Int) + 100)]] W fun e w' => e = .returned (.string (lsB (g + 100))) ∧ Below W.heap.size W w') := fun W => lease_bytes (g + 100) hgl W
  have h131 : Hid (∀ W, DUpd N w W → DiskAt W N d S → Calls Tryz.prog 131 #[.pointer (some ⟨d, 0, none⟩), .string (cntB nm), .slice (some ⟨W.heap.size, 0, none⟩) 1 1] (W.alloc (.cells #[.string (lsB (g + 100))] 9)) fun e w' => e = .returned (.int .i64 (rnE S (cntB nm) [lsB (g + 100)])) ∧ DiskAt w' N d (rnS S (cntB nm) [lsB (g + 100)]) ∧ DUpd N W w') := fun W hU hD =>
    (renew_some N d S (cntB nm) [lsB (g + 100)] hcn (by omega) (fun r hr => by simp at hr; subst hr; have := lsB_small (g + 100) hgl; omega) (by simp) _ 1 _ (hD.alloc _) (strs_one W N _) hlen (fun i hi => by have := hG i hi; have := hU.size; simp; omega)).mono fun e w' ⟨e1, e2, e3⟩ => ⟨e1, e2, ((DUpd.refl N W).alloc _).trans e3⟩
  have HD : Hid (DiskAt w N d S) := h
  have HC : Hid (Holds w c (ctV d nm last given false) 72) := hc
  have hb0 : Hid (Below n w (w.alloc (.cells #[.int .u64 0] 70)).drew) := ((Below.refl n w).alloc (by omega) _).drew
  have hb1 : Hid (Below n w w.drew) := (Below.refl n w).drew
  have hbx : Hid (Holds (w.alloc (.cells #[.int .u64 0] 70)).drew n [.int .u64 0] 70) := (hn ▸ holds_new w [.int .u64 0] 70 : Holds (w.alloc (.cells #[.int .u64 0] 70)) n [.int .u64 0] 70)
  have hz0 : (w.alloc (.cells #[.int .u64 0] 70)).drew.heap.size = n + 1 := by show (w.alloc (.cells #[.int .u64 0] 70)).heap.size = n + 1; simp [hn]
  have c1 := hc.at 1 _ rfl
  have c2 := hc.at 2 _ rfl
  have nw1 := World.new_ne w ⟨c, 1, none⟩ c1
  have nw2 := World.new_ne w ⟨c, 2, none⟩ c2
  have d1 : w.drew.cell? ⟨c, 1, none⟩ = some (.pointer (some ⟨d, 0, none⟩)) := c1
  have d2 : w.drew.cell? ⟨c, 2, none⟩ = some (.string (cntB nm)) := c2
  rw [hn] at h93 hlt
  clear h hc hL hcs
  generalize lsB (g + 100) = lb at *
  generalize rnE S (cntB nm) [lb] = E at *
  generalize rnS S (cntB nm) [lb] = S2 at *
  go_enter Tryz.func94, Tryz.ntmps94
  go_wp2
  go_region_held3 (fun w' => w'.cell? ⟨c, 1, none⟩ = some (.pointer (some ⟨d, 0, none⟩)) ∧ w'.cell? ⟨c, 2, none⟩ = some (.string (cntB nm))) (go_keep) (first
    | (go_at_call 93; refine (h93.out (w.alloc (.cells #[.int .u64 0] 70)).drew hb0.out).mono ?_; rintro e w1 ⟨rfl, b1⟩; have b1' := hb0.out.trans (b1.mono (by omega)); have hX := hbx.out.below b1 (by omega); have x1 := hX.at 0 _ rfl; have x2 := hX.frozen 0; have hC1 := HC.out.below b1' (by omega); have x3 := hC1.at 1 _ rfl; have x4 := hC1.at 2 _ rfl; have hC2 := hC1.setOther n 0 (.int .u64 (t : Int)) (by omega); have x5 := hC2.at 1 _ rfl; have x6 := hC2.at 2 _ rfl)
    | (go_at_call 93; refine (h93.out w.drew hb1.out).mono ?_; rintro e w1 ⟨rfl, b1⟩; have b1' := hb1.out.trans (b1.mono (by show n ≤ w.heap.size; omega)); obtain ⟨m, hm⟩ : ∃ m, w1.heap.size = m := ⟨_, rfl⟩; have hmn : n ≤ m := (by have := b1'.size; omega); have hcm : c ≠ m := (by omega); have hC1 := HC.out.below b1' (by omega); have x3 := hC1.at 1 _ rfl; have x4 := hC1.at 2 _ rfl; have hC2 := hC1.alloc (.cells #[.int .u64 (t : Int)] 70); have x5 := hC2.at 1 _ rfl; have x6 := hC2.at 2 _ rfl))
  · -- way
    have KX0 : Holds (w1.alloc (.cells #[.int .u64 (t : Int)] 70)) m [.int .u64 (t : Int)] 70 := hm ▸ holds_new w1 [.int .u64 (t : Int)] 70
    generalize hW : w1.alloc (.cells #[.int .u64 (t : Int)] 70) = W at *
    have KH : Holds W c (ctV d nm last given false) 72 := hC2
    have KX : Holds W m [.int .u64 (t : Int)] 70 := KX0
    have KB : Below n w W := hW ▸ b1'.alloc (by omega) _
    clear hW x3 x4 x5 x6 hC1 hC2 b1 b1' KX0 c1 c2 nw1 nw2 d1 d2 h93
    have KD : Hid (DiskAt W N d S) := HD.out.below (hn ▸ KB)
    have KH : Hid (Holds W c (ctV d nm last given false) 72) := KH
    have KB : Hid (Below n w W) := KB
    have y0 := KH.out.at 0 _ rfl
    have y1 := KX.at 0 _ rfl
    have z0 : W.drew.cell? ⟨c, 0, none⟩ = some (.int .u64 (last : Int)) := y0
    have z1 : W.drew.cell? ⟨m, 0, none⟩ = some (.int .u64 (t : Int)) := y1
    have hmx : max (last : Int) (t : Int) = (g : Int) := by omega
    have hgt : ¬ (18446744073709551515 : Int) < (g : Int) := by omega
    have hwr : IntKind.u64.wrap ((g : Int) + 100) = (g : Int) + 100 := by simp [IntKind.wrap, IntKind.bits, IntKind.signed]; omega
    have hnn : Hid (w.heap.size = n) := hn
    clear hn
    go_wp2
    go_region
    have VH : Hid (Holds W.drew c (ctV d nm last given false) 72) := KH.out
    have VB : Hid (Below n w W.drew) := KB.out.drew
    have VD : Hid (DiskAt W.drew N d S) := KD.out.drew
    clear y0 y1 z0 z1 KX KD KH KB HD HC hmx hg
    generalize W.drew = V at *
    have hgt : ¬ (18446744073709551515 : Int) < (g : Int) := by omega
    obtain ⟨v, hv⟩ : ∃ v, V.heap.size = v := ⟨_, rfl⟩
    have hnv : n ≤ v := by have := VB.out.size; have := hnn.out; omega
    have XH : Hid (Holds (V.alloc (.cells #[.int .u64 ((g : Int) + 100)] 70)).drew c (ctV d nm last given false) 72) := VH.out.alloc _
    have XB : Hid (Below n w (V.alloc (.cells #[.int .u64 ((g : Int) + 100)] 70)).drew) := (VB.out.alloc (by omega) _).drew
    have XD : Hid (DiskAt (V.alloc (.cells #[.int .u64 ((g : Int) + 100)] 70)).drew N d S) := (VD.out.alloc _).drew
    have XV : Hid (Holds (V.alloc (.cells #[.int .u64 ((g : Int) + 100)] 70)).drew v [.int .u64 ((g : Int) + 100)] 70) := (hv ▸ holds_new V [.int .u64 ((g : Int) + 100)] 70 : Holds (V.alloc (.cells #[.int .u64 ((g : Int) + 100)] 70)) v [.int .u64 ((g : Int) + 100)] 70)
    have hXz : (V.alloc (.cells #[.int .u64 ((g : Int) + 100)] 70)).drew.heap.size = v + 1 := by show (V.alloc (.cells #[.int .u64 ((g : Int) + 100)] 70)).heap.size = v + 1; simp [hv]
    have q1 := XH.out.at 1 _ rfl
    have q2 := XH.out.at 2 _ rfl
    have q3 := XV.out.at 0 _ rfl
    have r1 : (V.alloc (.cells #[.int .u64 ((g : Int) + 100)] 70)).cell? ⟨c, 1, none⟩ = some (.pointer (some ⟨d, 0, none⟩)) := q1
    have r2 : (V.alloc (.cells #[.int .u64 ((g : Int) + 100)] 70)).cell? ⟨c, 2, none⟩ = some (.string (cntB nm)) := q2
    have r3 : (V.alloc (.cells #[.int .u64 ((g : Int) + 100)] 70)).cell? ⟨v, 0, none⟩ = some (.int .u64 ((g : Int) + 100)) := q3
    have UW : Hid (∀ W', Below n w W' → DUpd N w W') := fun W' hB => DUpd.ofBelow (by rw [hnn.out]; exact hB)
    go_wp2
    go_region_held3 (fun w' => w'.cell? ⟨c, 1, none⟩ = some (.pointer (some ⟨d, 0, none⟩)) ∧ w'.cell? ⟨c, 2, none⟩ = some (.string (cntB nm)) ∧ w'.cell? ⟨v, 0, none⟩ = some (.int .u64 ((g : Int) + 100))) (go_keep) (first
      | (go_at_call 131; refine (h131.out w3 U3.out (D3.out)).mono ?_; rintro e w4 ⟨rfl, d4, u4⟩; have H4 := H3.out.dupd u4 (by decide) (by decide) (by decide); have s1 := H4.at 1 _ rfl; have s2 := H4.at 2 _ rfl; have s3 := (XV3.out.dupd u4 (by decide) (by decide) (by decide)).at 0 _ rfl; have D4 : Hid (DiskAt w4 N d S2) := d4; have U4 : Hid (DUpd N w w4) := U3.out.trans u4; have H4 : Hid (Holds w4 c (ctV d nm last given false) 72) := H4; clear d4 u4)
      | (go_at_call 140; refine (h140.out _).mono ?_; rintro e w3 ⟨rfl, b3⟩; have B3 := XB.out.trans (b3.mono (by omega)); have H3 : Hid (Holds w3 c (ctV d nm last given false) 72) := XH.out.below b3 (by omega); have XV3 : Hid (Holds w3 v [.int .u64 ((g : Int) + 100)] 70) := XV.out.below b3 (by omega); have o1 := H3.out.at 1 _ rfl; have o2 := H3.out.at 2 _ rfl; have o3 := XV3.out.at 0 _ rfl; have o4 := (H3.out.alloc (.cells #[.string lb] 9)).at 1 _ rfl; have o5 := (H3.out.alloc (.cells #[.string lb] 9)).at 2 _ rfl; have o6 := (XV3.out.alloc (.cells #[.string lb] 9)).at 0 _ rfl; have D3 : Hid (DiskAt w3 N d S) := XD.out.below b3; have U3 : Hid (DUpd N w w3) := UW.out _ B3; clear b3 B3))
    have p0 := H4.out.at 0 _ rfl
    have p3 := H4.out.at 3 _ rfl
    have p4 := H4.out.at 4 _ rfl
    have f0 := H4.out.frozen 0
    have f3 := H4.out.frozen 3
    have f4 := H4.out.frozen 4
    clear o1 o2 o3 o4 o5 o6 q1 q2 q3 r1 r2 r3 XH XB XD XV VH VB VD H3 XV3 D3 U3 UW
    have E5 := H4.out.set 4 (.bool (E != 22))
    have E6 := (H4.out.set 0 (.int .u64 ((g : Int) + 100))).set 3 (.int .u64 (g : Int))
    have F5 := D4.out.setC H4.out (by decide) (by decide) (by decide) 4 (.bool (E != 22))
    have F6 := (D4.out.setC H4.out (by decide) (by decide) (by decide) 0 (.int .u64 ((g : Int) + 100))).setC (H4.out.set 0 (.int .u64 ((g : Int) + 100))) (by decide) (by decide) (by decide) 3 (.int .u64 (g : Int))
    have G5 : CUpd N (fun i => i = c) w (w4.setCell ⟨c, 4, none⟩ (.bool (E != 22))) := (CUpd.ofD (L := fun i => i = c) U4.out).set c 4 _ rfl
    have G6 : CUpd N (fun i => i = c) w ((w4.setCell ⟨c, 0, none⟩ (.int .u64 ((g : Int) + 100))).setCell ⟨c, 3, none⟩ (.int .u64 (g : Int))) := ((CUpd.ofD (L := fun i => i = c) U4.out).set c 0 _ rfl).set c 3 _ rfl
    have R5 : Hid _ := And.intro F5 (And.intro E5 G5)
    have R6 : Hid _ := And.intro F6 (And.intro E6 G6)
    clear E5 E6 F5 F6 G5 G6
    by_cases hE : E = 0
    · subst hE
      go_wp2
      go_ret
      exact ⟨rfl, R6.out.1, R6.out.2.1, R6.out.2.2⟩
    · have hb : (E == 0) = false := beq_eq_false_iff_ne.2 hE
      by_cases h22 : E = 22
      · subst h22
        go_wp2
        go_ret
        exact ⟨rfl, R5.out.1, R5.out.2.1, R5.out.2.2⟩
      · have h22b : (E == 22) = false := beq_eq_false_iff_ne.2 h22
        have h22c : (E != 22) = true := by rw [bne, h22b]; rfl
        rw [h22c] at R5
        go_wp2
        go_ret
        exact ⟨rfl, R5.out.1, R5.out.2.1, R5.out.2.2⟩

  · -- way
    generalize hW : w1.setCell ⟨n, 0, none⟩ (.int .u64 (t : Int)) = W at *
    have KH : Holds W c (ctV d nm last given false) 72 := hC2
    have KX : Holds W n [.int .u64 (t : Int)] 70 := hW ▸ hX.set 0 (.int .u64 (t : Int))
    have KB : Below n w W := hW ▸ below_set b1' n 0 _ (Nat.le_refl _)
    clear hW hX x1 x2 x3 x4 x5 x6 hC1 hC2 b1 b1' hb0 hb1 hbx hz0 c1 c2 nw1 nw2 d1 d2 h93
    have KD : Hid (DiskAt W N d S) := HD.out.below (hn ▸ KB)
    have KH : Hid (Holds W c (ctV d nm last given false) 72) := KH
    have KB : Hid (Below n w W) := KB
    have y0 := KH.out.at 0 _ rfl
    have y1 := KX.at 0 _ rfl
    have z0 : W.drew.cell? ⟨c, 0, none⟩ = some (.int .u64 (last : Int)) := y0
    have z1 : W.drew.cell? ⟨n, 0, none⟩ = some (.int .u64 (t : Int)) := y1
    have hmx : max (last : Int) (t : Int) = (g : Int) := by omega
    have hgt : ¬ (18446744073709551515 : Int) < (g : Int) := by omega
    have hwr : IntKind.u64.wrap ((g : Int) + 100) = (g : Int) + 100 := by simp [IntKind.wrap, IntKind.bits, IntKind.signed]; omega
    have hnn : Hid (w.heap.size = n) := hn
    clear hn
    go_wp2
    go_region
    have VH : Hid (Holds W.drew c (ctV d nm last given false) 72) := KH.out
    have VB : Hid (Below n w W.drew) := KB.out.drew
    have VD : Hid (DiskAt W.drew N d S) := KD.out.drew
    clear y0 y1 z0 z1 KX KD KH KB HD HC hmx hg
    generalize W.drew = V at *
    have hgt : ¬ (18446744073709551515 : Int) < (g : Int) := by omega
    obtain ⟨v, hv⟩ : ∃ v, V.heap.size = v := ⟨_, rfl⟩
    have hnv : n ≤ v := by have := VB.out.size; have := hnn.out; omega
    have XH : Hid (Holds (V.alloc (.cells #[.int .u64 ((g : Int) + 100)] 70)).drew c (ctV d nm last given false) 72) := VH.out.alloc _
    have XB : Hid (Below n w (V.alloc (.cells #[.int .u64 ((g : Int) + 100)] 70)).drew) := (VB.out.alloc (by omega) _).drew
    have XD : Hid (DiskAt (V.alloc (.cells #[.int .u64 ((g : Int) + 100)] 70)).drew N d S) := (VD.out.alloc _).drew
    have XV : Hid (Holds (V.alloc (.cells #[.int .u64 ((g : Int) + 100)] 70)).drew v [.int .u64 ((g : Int) + 100)] 70) := (hv ▸ holds_new V [.int .u64 ((g : Int) + 100)] 70 : Holds (V.alloc (.cells #[.int .u64 ((g : Int) + 100)] 70)) v [.int .u64 ((g : Int) + 100)] 70)
    have hXz : (V.alloc (.cells #[.int .u64 ((g : Int) + 100)] 70)).drew.heap.size = v + 1 := by show (V.alloc (.cells #[.int .u64 ((g : Int) + 100)] 70)).heap.size = v + 1; simp [hv]
    have q1 := XH.out.at 1 _ rfl
    have q2 := XH.out.at 2 _ rfl
    have q3 := XV.out.at 0 _ rfl
    have r1 : (V.alloc (.cells #[.int .u64 ((g : Int) + 100)] 70)).cell? ⟨c, 1, none⟩ = some (.pointer (some ⟨d, 0, none⟩)) := q1
    have r2 : (V.alloc (.cells #[.int .u64 ((g : Int) + 100)] 70)).cell? ⟨c, 2, none⟩ = some (.string (cntB nm)) := q2
    have r3 : (V.alloc (.cells #[.int .u64 ((g : Int) + 100)] 70)).cell? ⟨v, 0, none⟩ = some (.int .u64 ((g : Int) + 100)) := q3
    have UW : Hid (∀ W', Below n w W' → DUpd N w W') := fun W' hB => DUpd.ofBelow (by rw [hnn.out]; exact hB)
    go_wp2
    go_region_held3 (fun w' => w'.cell? ⟨c, 1, none⟩ = some (.pointer (some ⟨d, 0, none⟩)) ∧ w'.cell? ⟨c, 2, none⟩ = some (.string (cntB nm)) ∧ w'.cell? ⟨v, 0, none⟩ = some (.int .u64 ((g : Int) + 100))) (go_keep) (first
      | (go_at_call 131; refine (h131.out w3 U3.out (D3.out)).mono ?_; rintro e w4 ⟨rfl, d4, u4⟩; have H4 := H3.out.dupd u4 (by decide) (by decide) (by decide); have s1 := H4.at 1 _ rfl; have s2 := H4.at 2 _ rfl; have s3 := (XV3.out.dupd u4 (by decide) (by decide) (by decide)).at 0 _ rfl; have D4 : Hid (DiskAt w4 N d S2) := d4; have U4 : Hid (DUpd N w w4) := U3.out.trans u4; have H4 : Hid (Holds w4 c (ctV d nm last given false) 72) := H4; clear d4 u4)
      | (go_at_call 140; refine (h140.out _).mono ?_; rintro e w3 ⟨rfl, b3⟩; have B3 := XB.out.trans (b3.mono (by omega)); have H3 : Hid (Holds w3 c (ctV d nm last given false) 72) := XH.out.below b3 (by omega); have XV3 : Hid (Holds w3 v [.int .u64 ((g : Int) + 100)] 70) := XV.out.below b3 (by omega); have o1 := H3.out.at 1 _ rfl; have o2 := H3.out.at 2 _ rfl; have o3 := XV3.out.at 0 _ rfl; have o4 := (H3.out.alloc (.cells #[.string lb] 9)).at 1 _ rfl; have o5 := (H3.out.alloc (.cells #[.string lb] 9)).at 2 _ rfl; have o6 := (XV3.out.alloc (.cells #[.string lb] 9)).at 0 _ rfl; have D3 : Hid (DiskAt w3 N d S) := XD.out.below b3; have U3 : Hid (DUpd N w w3) := UW.out _ B3; clear b3 B3))
    have p0 := H4.out.at 0 _ rfl
    have p3 := H4.out.at 3 _ rfl
    have p4 := H4.out.at 4 _ rfl
    have f0 := H4.out.frozen 0
    have f3 := H4.out.frozen 3
    have f4 := H4.out.frozen 4
    clear o1 o2 o3 o4 o5 o6 q1 q2 q3 r1 r2 r3 XH XB XD XV VH VB VD H3 XV3 D3 U3 UW
    have E5 := H4.out.set 4 (.bool (E != 22))
    have E6 := (H4.out.set 0 (.int .u64 ((g : Int) + 100))).set 3 (.int .u64 (g : Int))
    have F5 := D4.out.setC H4.out (by decide) (by decide) (by decide) 4 (.bool (E != 22))
    have F6 := (D4.out.setC H4.out (by decide) (by decide) (by decide) 0 (.int .u64 ((g : Int) + 100))).setC (H4.out.set 0 (.int .u64 ((g : Int) + 100))) (by decide) (by decide) (by decide) 3 (.int .u64 (g : Int))
    have G5 : CUpd N (fun i => i = c) w (w4.setCell ⟨c, 4, none⟩ (.bool (E != 22))) := (CUpd.ofD (L := fun i => i = c) U4.out).set c 4 _ rfl
    have G6 : CUpd N (fun i => i = c) w ((w4.setCell ⟨c, 0, none⟩ (.int .u64 ((g : Int) + 100))).setCell ⟨c, 3, none⟩ (.int .u64 (g : Int))) := ((CUpd.ofD (L := fun i => i = c) U4.out).set c 0 _ rfl).set c 3 _ rfl
    have R5 : Hid _ := And.intro F5 (And.intro E5 G5)
    have R6 : Hid _ := And.intro F6 (And.intro E6 G6)
    clear E5 E6 F5 F6 G5 G6
    by_cases hE : E = 0
    · subst hE
      go_wp2
      go_ret
      exact ⟨rfl, R6.out.1, R6.out.2.1, R6.out.2.2⟩
    · have hb : (E == 0) = false := beq_eq_false_iff_ne.2 hE
      by_cases h22 : E = 22
      · subst h22
        go_wp2
        go_ret
        exact ⟨rfl, R5.out.1, R5.out.2.1, R5.out.2.2⟩
      · have h22b : (E == 22) = false := beq_eq_false_iff_ne.2 h22
        have h22c : (E != 22) = true := by rw [bne, h22b]; rfl
        rw [h22c] at R5
        go_wp2
        go_ret
        exact ⟨rfl, R5.out.1, R5.out.2.1, R5.out.2.2⟩

end Go.Proofs.YtfmmholkeadejaaGreatDoor
