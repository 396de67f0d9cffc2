/- TreeOrder's walk, more than 40 sums, more others. -/
import Derived.Test.YtbfadapffpijpaaDoorTrOrdH
namespace Go.Proofs.YtbfadapffpijpaaDoor
open Go.RowKit Go.Maps Go.WideMaps
attribute [local go_sem ↓] rule_eql rule_neq rule_eqlD rule_neqD rule26

set_option maxHeartbeats 8000000 in
set_option maxRecDepth 100000 in
theorem order_d (l : Ps) (os : List ByteArray) (ln lo : Nat) (hln : l.length = ln) (hlo0 : os.length = lo) (hl : 40 < ln) (hlo : 40 < lo) (va vo : Value) (hWt : wtP l ≤ 100000000) (hWo : wtO os ≤ 100000000) (w : World) (hL : Laid w) (ha : SumsAt w va l) (ho : StrsAt w (fun _ => False) vo os) :
    Calls Tryd.prog 4 #[va, vo] w fun e w' => e = .returned (.bool true) ∧ Below w.heap.size w w' := by
  have hwake : Hid (Calls Tryd.prog 9 #[] w fun e w' => e = .returned (.bool true) ∧ Below w.heap.size w w') := wake_any w hL
  have HM : Hid (l.length = ln) := hln
  have HO : Hid (os.length = lo) := hlo0
  have H32 : Hid (∀ p ∈ l, p.2.length = 32) := ha.1
  have HWt : Hid (wtP l ≤ 100000000) := hWt
  have HWo : Hid (wtO os ≤ 100000000) := hWo
  have HSO : Hid (∀ w1, Below w.heap.size w w1 → StrsAt w1 (fun _ => False) vo os) := fun w1 hB => ho.tupd (.ofBelow hB)
  obtain ⟨_, av, cv, rfl, hsum⟩ := ha
  obtain ⟨ao, co, rfl, hstr⟩ := ho
  have HS0 : Hid (∀ (i : Nat) (p : ByteArray × List UInt8), l[i]? = some p → ∃ g o, av = some ⟨g, o, none⟩ ∧ ∀ W, Below w.heap.size w W → W.cell? ⟨g, o + i * 33, none⟩ = some (.string p.1) ∧ W.rangeAt g (o + i * 33 + 1) (p.2.map byteV)) := fun i p hp => by
    obtain ⟨g, o, e, hg, q1, q2⟩ := hsum i p hp
    exact ⟨g, o, e, fun W hW => ⟨by rw [hW.cell (p := ⟨g, o + i * 33, none⟩) hg]; exact q1, rangeAt_below q2 hW hg⟩⟩
  have HT0 : Hid (∀ (W : World) (i : Nat) (x : ByteArray), os[i]? = some x → Below w.heap.size w W → ∃ g o, ao = some ⟨g, o, none⟩ ∧ W.cell? ⟨g, o + i, none⟩ = some (.string x)) := fun W i x hx hW => by
    obtain ⟨g, o, e, hg, _, q⟩ := hstr i x hx
    exact ⟨g, o, e, by rw [hW.cell (p := ⟨g, o + i, none⟩) hg]; exact q⟩
  have HL : Hid (∀ w1, Below w.heap.size w w1 → Laid w1) := fun w1 hB => hL.below hB hL.two
  obtain ⟨hlo8, hln8⟩ := order_sizes l os ln lo hln hlo0 hWt hWo
  rw [hln, hlo0]
  rw [hlo0] at HSO
  clear hsum hstr hWt hWo hL hln hlo0
  have hgtL : (40 : Int) < (ln : Int) := by omega
  have hgtO : (40 : Int) < (lo : Int) := by omega
  go_enter Tryd.func4, Tryd.ntmps4
  go_wp2_with (first
    | (go_at_call 9; refine hwake.out.mono ?_; rintro e w1 ⟨rfl, b1⟩; have L1 := HL.out w1 b1)
    | (go_at_call 6; refine (tnew_any w1).mono ?_; rintro e w2 ⟨rfl, h2⟩)
    | (go_at_call 6; refine (tnew_any w2).mono ?_; rw [h2.size]; rintro e w3 ⟨rfl, h3⟩; have D0 := duo_new L1 h2 h3))
  obtain ⟨M, hM⟩ : ∃ M, w1.heap.size = M := ⟨_, rfl⟩
  rw [hM] at D0 ⊢
  have HSum : Hid (∀ (i : Nat) (p : ByteArray × List UInt8), l[i]? = some p → ∃ g o, av = some ⟨g, o, none⟩ ∧ ∀ W, Below M w1 W → W.cell? ⟨g, o + i * 33, none⟩ = some (.string p.1) ∧ W.rangeAt g (o + i * 33 + 1) (p.2.map byteV)) := fun i p hp => by
    obtain ⟨g, o, e, q⟩ := HS0.out i p hp
    exact ⟨g, o, e, fun W hW => q W (b1.trans (hW.mono (hM ▸ b1.size)))⟩
  have HStr : Hid (∀ (W : World) (i : Nat), i < lo → Below M w1 W → ∃ x g o, os[i]? = some x ∧ ao = some ⟨g, o, none⟩ ∧ W.cell? ⟨g, o + i, none⟩ = some (.string x)) := fun W i hi hW => by
    obtain ⟨x, hx⟩ : ∃ x, os[i]? = some x := ⟨_, List.getElem?_eq_getElem (by rw [HO.out]; exact hi)⟩
    obtain ⟨g, o, e, q⟩ := HT0.out W i x hx (b1.trans (hW.mono (hM ▸ b1.size)))
    exact ⟨x, g, o, hx, e, q⟩
  have HSO1 : Hid (StrsAt w1 (fun _ => False) (.slice ao lo co) os) := HSO.out w1 b1
  have HFin : Hid (∀ W, Below M w1 W → Below w.heap.size w W) := fun W hW => b1.trans (hW.mono (hM ▸ b1.size))
  have HM1 : Hid (w1.heap.size ≤ M) := Nat.le_of_eq hM
  have D1 : Duo w1 M w3 M (M + 1) (putAll newT ((l.take 40).take 0)) newT := D0
  clear D0 h2 h3 b1 L1 HS0 HT0 HL hwake HSO hM
  have hlm : (l.take 40).length = 40 := by rw [List.length_take, HM.out]; omega
  have g0 : Hid (Good newT 0) := good_new
  have H32m : Hid (∀ p ∈ l.take 40, p.2.length = 32) := fun p hp => H32.out p (List.mem_of_mem_take hp)
  have HWm : Hid (wtP (l.take 40) ≤ 100000000) := Nat.le_trans (wtP_take l _) HWt.out
  have HLm : Hid ((l.take 40).length = 40) := hlm
  have HRd : Hid (∀ k : Nat, k < 40 → ∃ p g o, (l.take 40)[k]? = some p ∧ av = some ⟨g, o, none⟩ ∧ ∀ W, Below M w1 W → W.cell? ⟨g, o + k * 33, none⟩ = some (.string p.1) ∧ W.rangeAt g (o + k * 33 + 1) (p.2.map byteV)) := fun k hk => by
    obtain ⟨p, hp⟩ : ∃ p, (l.take 40)[k]? = some p := ⟨_, List.getElem?_eq_getElem (by rw [hlm]; exact hk)⟩
    have hp2 : l[k]? = some p := by rw [List.getElem?_take, if_pos hk] at hp; exact hp
    obtain ⟨g, o, e, q⟩ := HSum.out k p hp2
    exact ⟨p, g, o, hp, e, q⟩
  clear hlm HSum H32
  generalize l.take 40 = lm at *
  go_loopw [9] (fun c wr => ∃ k : Nat, k ≤ 40 ∧ c = .int .i64 (k : Int) ∧ Duo w1 M wr M (M + 1) (putAll newT (lm.take k)) newT) (fun c _ => 40 - (intOf c).toNat)
  case atStart => exact ⟨0, by omega, rfl, D1⟩
  case round =>
    clear D1
    obtain ⟨k, hk, rfl, hD⟩ := hrel
    have k0 : (0 : Int) ≤ (k : Int) := by omega
    by_cases hlt : k < 40
    · obtain ⟨p, g, o, hp, rfl, hcr⟩ := HRd.out k hlt
      have k1 : (k : Int) < 40 := by omega
      have k2 : (k : Int) < (ln : Int) := by omega
      have HCR : Hid (∀ W, Below M w1 W → W.cell? ⟨g, o + k * 33, none⟩ = some (.string p.1) ∧ W.rangeAt g (o + k * 33 + 1) (p.2.map byteV)) := hcr
      have BD : Hid (Below M w1 wr.drew) := hD.below.drew
      have hu26 := und26
      have hl26 : (p.2.map byteV).length = 32 := by rw [List.length_map, H32m.out p (List.mem_of_getElem? hp)]
      have hi26 : (Tryd.prog.info? 26).map (·.size) = some (p.2.map byteV).length := by rw [hl26]; exact siz26
      have ho26 := byteV_one p.2
      have HPut : Hid (Calls Tryd.prog 7 #[.pointer (some ⟨M, 0, none⟩), .string p.1, .agg (p.2.map byteV).toArray] wr.drew fun e w' => e = .returned (.tuple #[]) ∧ Duo w1 M w' M (M + 1) (putAll newT (lm.take (k + 1))) newT) := (hD.ofBelow (Below.refl _ _).drew).more g0.out H32m.out (by have := HWm.out; omega) hp
      clear hD hcr
      go_wp2_with fail
      go_region_held3 (fun W => W.cell? ⟨g, o + k * 33, none⟩ = some (.string p.1) ∧ W.rangeAt g (o + k * 33 + 1) (p.2.map byteV))
        (first | exact HCR.out _ BD.out | exact HCR.out _ D2.below)
        (first | (go_at_call 7; refine HPut.out.mono ?_; rintro e w2 ⟨rfl, D2⟩))
      all_goals
        go_wp2
        exact ⟨⟨k + 1, by omega, by go_num, D2⟩, by simp [intOf]; omega⟩
    · have k1 : ¬ (k : Int) < 40 := by omega
      rw [List.take_of_length_le (by rw [HLm.out]; omega)] at hD
      obtain ⟨A, hA⟩ : ∃ A, Hid (putAll newT lm = A) := ⟨_, rfl⟩
      rw [hA.out] at hD
      have gA : Hid (Good A 100000000) := by
        have := (good_new.putAll lm H32m.out).mono (show 0 + wtP lm ≤ 100000000 by have := HWm.out; omega)
        rw [hA.out] at this
        exact this
      have HD : Hid (Duo w1 M wr M (M + 1) A newT) := hD
      clear hD
      go_wp2_with fail
      go_loopw [10] (fun c wr => ∃ k : Nat, k ≤ 40 ∧ c = .int .i64 (k : Int) ∧ Duo w1 M wr M (M + 1) A (putAll newT ((os.map fun x => (x, one9)).take k))) (fun c _ => 40 - (intOf c).toNat)
      case atStart => exact ⟨0, by omega, rfl, HD.out⟩
      case round =>
        clear HD
        obtain ⟨j, hj, rfl, hD⟩ := hrel
        have j0 : (0 : Int) ≤ (j : Int) := by omega
        by_cases hjl : j < 40
        · obtain ⟨x, g, o, hx, rfl, c1⟩ := HStr.out wr j (by omega) hD.below
          have j1 : (j : Int) < (lo : Int) := by omega
          have j2 : (j : Int) < 40 := by omega
          have HPut : Hid (Calls Tryd.prog 7 #[.pointer (some ⟨M + 1, 0, none⟩), .string x, .agg (one9.map byteV).toArray] wr fun e w' => e = .returned (.tuple #[]) ∧ Duo w1 M w' (M + 1) M (putAll newT ((os.map fun x => (x, one9)).take (j + 1))) A) := hD.swap.more (p := (x, one9)) g0.out (fun p hp => by obtain ⟨y, _, rfl⟩ := List.mem_map.1 hp; rfl) (by rw [wtO_P]; have := HWo.out; omega) (by rw [List.getElem?_map, hx]; rfl)
          clear hD
          go_wp2_with (first
            | (refine wpList_build_at rfl 26 [(0, .const (.int .u8 9))] rfl (one9.map byteV).toArray built9 ?_)
            | (go_at_call 7; refine HPut.out.mono ?_; rintro e w2 ⟨rfl, D2⟩))
          exact ⟨⟨j + 1, by omega, by go_num, D2.swap⟩, by simp [intOf]; omega⟩
        · have j1 : (j : Int) < (lo : Int) := by omega
          have j2 : ¬ (j : Int) < 40 := by omega
          obtain ⟨B1, hB1⟩ : ∃ B1, Hid (putAll newT ((os.map fun x => (x, one9)).take j) = B1) := ⟨_, rfl⟩
          rw [hB1.out] at hD
          have gB1 : Hid (Good B1 100000000) := by
            have h9 : ∀ p ∈ (os.map fun x => (x, one9)).take j, p.2.length = 32 := fun p hp => by obtain ⟨y, _, rfl⟩ := List.mem_map.1 (List.mem_of_mem_take hp); rfl
            have := (good_new.putAll ((os.map fun x => (x, one9)).take j) h9).mono (show 0 + wtP ((os.map fun x => (x, one9)).take j) ≤ 100000000 by
              have h1 := wtP_take (os.map fun x => (x, one9)) j
              rw [wtO_P] at h1
              have := HWo.out
              omega)
            rw [hB1.out] at this
            exact this
          have gB3 : Hid (Good (delAll (reckT B1) os) 100000000) := gB1.out.reck.delAll os
          have HRoot : Hid (Calls Tryd.prog 10 #[.pointer (some ⟨M + 1, 0, none⟩)] wr fun e w' => e = .returned (.agg ((rootH B1).map byteV).toArray) ∧ Duo w1 M w' (M + 1) M (reckT B1) A) := (hD.swap.root (gB1.out.fit.mono (by decide))).mono fun e w' ⟨e1, e2, _⟩ => ⟨e1, e2⟩
          have HDel : Hid (∀ W, Duo w1 M W (M + 1) M (reckT B1) A → Calls Tryd.prog 8 #[.pointer (some ⟨M + 1, 0, none⟩), .slice ao lo co] W fun e w' => e = .returned (.tuple #[]) ∧ Duo w1 M w' (M + 1) M (delAll (reckT B1) os) A) := fun W hW => (hW.del (gB1.out.reck.fit.mono (by decide)) _ os (by rw [HO.out]; omega) (fun x hx => by have := wtO_mem hx; have := HWo.out; omega) HSO1.out HM1.out).mono fun e w' ⟨e1, e2, _⟩ => ⟨e1, e2⟩
          clear hD
          go_wp2_with (first
            | (go_at_call 10; refine HRoot.out.mono ?_; rintro e w2 ⟨rfl, D2⟩)
            | (go_at_call 8; refine (HDel.out _ D2).mono ?_; rintro e w3 ⟨rfl, D3⟩))
          obtain ⟨B3, hB3⟩ : ∃ B3, Hid (delAll (reckT B1) os = B3) := ⟨_, rfl⟩
          rw [hB3.out] at D3 gB3
          have HD3 : Hid (Duo w1 M w3 (M + 1) M B3 A) := D3
          clear D3 D2 HRoot HDel
          go_loopw [11] (fun c wr => ∃ k : Nat, k ≤ 40 ∧ c = .int .i64 (k : Int) ∧ Duo w1 M wr (M + 1) M (putAll B3 ((backP lm).take k)) A) (fun c _ => 40 - (intOf c).toNat)
          case atStart => exact ⟨0, by omega, rfl, HD3.out⟩
          case round =>
            clear HD3
            obtain ⟨i, hi, rfl, hD⟩ := hrel
            by_cases hil : i < 40
            · obtain ⟨p, g, o, hp, rfl, hcr⟩ := HRd.out (40 - 1 - i) (by omega)
              have c1 := (hcr wr hD.below).1
              obtain ⟨q, hq⟩ : ∃ q : Nat, 40 - 1 - i = q := ⟨_, rfl⟩
              rw [hq] at hp c1
              have i1 : (i : Int) < 40 := by omega
              have i2 : 40 - 1 - (i : Int) = (q : Int) := by omega
              have i3 : (0 : Int) ≤ (q : Int) := by omega
              have i4 : (q : Int) < (ln : Int) := by omega
              have i6 : (39 : Int) - (i : Int) = (q : Int) := by omega
              have i7 : (40 : Int) - 1 = 39 := by decide
              have HPut : Hid (Calls Tryd.prog 7 #[.pointer (some ⟨M + 1, 0, none⟩), .string p.1, .agg (one1.map byteV).toArray] wr fun e w' => e = .returned (.tuple #[]) ∧ Duo w1 M w' (M + 1) M (putAll B3 ((backP lm).take (i + 1))) A) := hD.more (p := (p.1, one1)) gB3.out (fun x hx => by obtain ⟨y, _, rfl⟩ := List.mem_map.1 hx; rfl) (by rw [wtP_back]; have := HWm.out; omega) (backP_at lm i (by rw [HLm.out]; exact hil) p (by rw [HLm.out, hq]; exact hp))
              clear hD hcr hq
              go_wp2_with (first
                | (refine wpList_build_at rfl 26 [(0, .const (.int .u8 1))] rfl (one1.map byteV).toArray built1 ?_)
                | (go_at_call 7; refine HPut.out.mono ?_; rintro e w2 ⟨rfl, D2⟩))
              exact ⟨⟨i + 1, by omega, by go_num, D2⟩, by simp [intOf]; omega⟩
            · have i1 : ¬ (i : Int) < 40 := by omega
              rw [List.take_of_length_le (by unfold backP; rw [List.length_map, List.length_reverse, HLm.out]; omega)] at hD
              obtain ⟨B4, hB4⟩ : ∃ B4, Hid (putAll B3 (backP lm) = B4) := ⟨_, rfl⟩
              rw [hB4.out] at hD
              have gB4 : Hid (Good B4 200000000) := by
                have := (gB3.out.putAll (backP lm) (fun x hx => by obtain ⟨y, _, rfl⟩ := List.mem_map.1 hx; rfl)).mono (show 100000000 + wtP (backP lm) ≤ 200000000 by rw [wtP_back]; have := HWm.out; omega)
                rw [hB4.out] at this
                exact this
              have HD : Hid (Duo w1 M wr (M + 1) M B4 A) := hD
              clear hD
              go_wp2_with fail
              go_loopw [12] (fun c wr => ∃ k : Nat, k ≤ 40 ∧ c = .int .i64 (k : Int) ∧ Duo w1 M wr (M + 1) M (putAll B4 (lm.take k)) A) (fun c _ => 40 - (intOf c).toNat)
              case atStart => exact ⟨0, by omega, rfl, HD.out⟩
              case round =>
                clear HD
                obtain ⟨u, hu, rfl, hD⟩ := hrel
                have u0 : (0 : Int) ≤ (u : Int) := by omega
                by_cases hul : u < 40
                · obtain ⟨p, g, o, hp, rfl, hcr⟩ := HRd.out u hul
                  have k1 : (u : Int) < 40 := by omega
                  have k2 : (u : Int) < (ln : Int) := by omega
                  have HCR : Hid (∀ W, Below M w1 W → W.cell? ⟨g, o + u * 33, none⟩ = some (.string p.1) ∧ W.rangeAt g (o + u * 33 + 1) (p.2.map byteV)) := hcr
                  have BD : Hid (Below M w1 wr.drew) := hD.below.drew
                  have hu26 := und26
                  have hl26 : (p.2.map byteV).length = 32 := by rw [List.length_map, H32m.out p (List.mem_of_getElem? hp)]
                  have hi26 : (Tryd.prog.info? 26).map (·.size) = some (p.2.map byteV).length := by rw [hl26]; exact siz26
                  have ho26 := byteV_one p.2
                  have HPut : Hid (Calls Tryd.prog 7 #[.pointer (some ⟨M + 1, 0, none⟩), .string p.1, .agg (p.2.map byteV).toArray] wr.drew fun e w' => e = .returned (.tuple #[]) ∧ Duo w1 M w' (M + 1) M (putAll B4 (lm.take (u + 1))) A) := (hD.ofBelow (Below.refl _ _).drew).more gB4.out H32m.out (by have := HWm.out; omega) hp
                  clear hD hcr
                  go_wp2_with fail
                  go_region_held3 (fun W => W.cell? ⟨g, o + u * 33, none⟩ = some (.string p.1) ∧ W.rangeAt g (o + u * 33 + 1) (p.2.map byteV))
                    (first | exact HCR.out _ BD.out | exact HCR.out _ D2.below)
                    (first | (go_at_call 7; refine HPut.out.mono ?_; rintro e w2 ⟨rfl, D2⟩))
                  all_goals
                    go_wp2
                    exact ⟨⟨u + 1, by omega, by go_num, D2⟩, by simp [intOf]; omega⟩
                · have k1 : ¬ (u : Int) < 40 := by omega
                  rw [List.take_of_length_le (by rw [HLm.out]; omega)] at hD
                  have HB : Hid (Below M w1 wr) := hD.below
                  clear hD
                  go_wp2
                  go_ret
                  exact ⟨rfl, HFin.out wr HB.out⟩
end Go.Proofs.YtbfadapffpijpaaDoor
