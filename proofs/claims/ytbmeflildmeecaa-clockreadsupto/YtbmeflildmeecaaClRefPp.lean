/- The document's Parse (37). -/
import Derived.Test.YtbmeflildmeecaaClRefPs
import Derived.Test.YtbmeflildmeecaaClApp
namespace Go.Proofs.Ytbmeflildmeecaa
open Go.RowKit Go.Shelf Go.Sort Go.Lib Pk

theorem par_take {l : List UInt8} {k : Nat} {y1 y2 : UInt8} (h1 : l[2 * k]? = some y1) (h2 : l[2 * k + 1]? = some y2) : (parB l).take (k + 1) = (parB l).take k ++ [nib y1 y2] := by
  rw [List.take_add_one, parB_at l k y1 y2 h1 h2]; rfl
theorem take_two {l : List UInt8} {k : Nat} {y1 y2 : UInt8} (h1 : l[2 * k]? = some y1) (h2 : l[2 * k + 1]? = some y2) : l.take (2 * (k + 1)) = l.take (2 * k) ++ [y1, y2] := by
  rw [show 2 * (k + 1) = 2 * k + 1 + 1 by omega, List.take_add_one, h2, List.take_add_one, h1]
  simp
theorem pfacts {k N : Nat} (h : k < N) (hs : 2 * N ≤ 549755813888) : 2 * k < 2 * N ∧ 2 * k + 1 < 2 * N ∧ (0 : Int) ≤ 2 * (k : Int) ∧ 2 * (k : Int) < 2 * (N : Int) ∧ (0 : Int) ≤ 2 * (k : Int) + 1 ∧ 2 * (k : Int) + 1 < 2 * (N : Int) ∧ (2 * (k : Int)).toNat = 2 * k ∧ (2 * (k : Int) + 1).toNat = 2 * k + 1 ∧
    IntKind.i64.wrap (2 * (k : Int)) = 2 * (k : Int) ∧ IntKind.i64.wrap (2 * (k : Int) + 1) = 2 * (k : Int) + 1 ∧ wrap64 (2 * (k : Int)) = 2 * (k : Int) ∧ wrap64 (2 * (k : Int) + 1) = 2 * (k : Int) + 1 ∧ wrap64 (2 * (k : Int) + 2) = 2 * ((k : Int) + 1) ∧ wrap64 (2 * ((k : Int) + 1)) = 2 * ((k : Int) + 1) := by
  refine ⟨by omega, by omega, by omega, by omega, by omega, by omega, by omega, by omega, ?_, ?_, ?_, ?_, ?_, ?_⟩
  · simp [IntKind.wrap, IntKind.bits, IntKind.signed]; omega
  · simp [IntKind.wrap, IntKind.bits, IntKind.signed]; omega
  · unfold wrap64; omega
  · unfold wrap64; omega
  · unfold wrap64; omega
  · unfold wrap64; omega
theorem efacts {k : Nat} (h : 2 * k ≤ 549755813888) : wrap64 (2 * (k : Int)) = 2 * (k : Int) ∧ wrap64 (2 * (k : Int) + 1) = 2 * (k : Int) + 1 := ⟨by unfold wrap64; omega, by unfold wrap64; omega⟩
theorem bfacts {a b : Nat} (ha : a < 16) (hb : b < 16) : IntKind.u8.wrap (16 * (a : Int)) = 16 * (a : Int) ∧ IntKind.u8.wrap (16 * (a : Int) + (b : Int)) = 16 * (a : Int) + (b : Int) := ⟨by rw [wrap_u8]; omega, by rw [wrap_u8]; omega⟩
theorem mfacts {k N : Nat} (h : k < N) (hs : 2 * N ≤ 549755813888) : k + 1 ≤ maxLen ∧ (k + 1) * 1 ≤ 140737488355328 := by unfold maxLen; omega
set_option maxRecDepth 100000 in
set_option maxHeartbeats 4000000 in
theorem refParse_any (t : ByteArray) (hs : t.size ≤ 549755813888) (w : World) : Calls Try.prog 37 #[.string t] w (MakesE w (psV t) (psE t)) := by
  obtain ⟨i5, hi5, hz5, hs5, hb5⟩ := inf5
  have F5 : Hid (Try.prog.info? 5 = some i5) := hi5
  clear hi5
  have h54 : Hid (∀ (y : UInt8) (W : World), Calls Try.prog 54 #[.int .u8 (y.toNat : Int)] W fun e w' => e = .returned (.int .u8 (dg y : Int)) ∧ w' = W) := fun y W => rdigit_any y W
  obtain ⟨l, hl⟩ : ∃ l, t.data.toList = l := ⟨_, rfl⟩
  have hlt : l.length = t.size := by rw [← hl]; rfl
  have hno := @psV_no t
  have hyes := @psV_digs t
  rw [hl] at hno hyes
  obtain ⟨n, hn⟩ : ∃ n, t.size = n := ⟨_, rfl⟩
  rw [hn] at hs hlt
  have HNo : Hid (¬ digs l → ∀ w', Below w.heap.size w w' → MakesE w (psV t) (psE t) (.returned (.tuple #[.slice none 0 0, .int .i64 31])) w') := fun h w' hB => by
    rw [(hno h).1, (hno h).2]
    exact ⟨none, 0, rfl, Clk.nil _ _ _ _, hB⟩
  have HYes : Hid (digs l → ∀ W, Below w.heap.size w W → Calls Try.prog 36 #[.string (psB t)] W fun e w' => MakesE w (psV t) (psE t) e w') := fun h W hB => by
    rw [(hyes h).1, (hyes h).2]
    refine (refRead_any (psB t) (by rw [psB_size]; omega) W).mono ?_
    rintro e w' ⟨a, cap, rfl, hc, hB2⟩
    exact ⟨a, cap, rfl, hc.mono (fun k hk => ⟨Nat.le_trans hB.size hk.1, hk.2⟩), below_trans hB hB2⟩
  have HPB : Hid (psB t = strL (parB l)) := by unfold psB; rw [hl]; exact rfl
  clear hno hyes
  have htm : (n : Int).tmod 2 = (n : Int) % 2 := Int.tmod_eq_emod_of_nonneg (by omega)
  by_cases hodd : n % 2 = 1
  · have ho : ((n : Int) % 2 != 0) = true := by simp; omega
    have hnd : Hid (¬ digs l) := fun h => by have := h.1; omega
    clear hodd
    go_enter Try.func37, Try.ntmps37
    go_wp2
    exact bodyPost_ret (results_tmp2 (t := 2) (u := 3) (by kernel_rfl) _ _ _) rfl (HNo.out hnd.out _ (Below.refl _ _))
  have hev : n % 2 = 0 := by omega
  obtain ⟨N, rfl⟩ : ∃ N, n = 2 * N := ⟨n / 2, by omega⟩
  have he : (((2 * N : Nat) : Int) % 2) = 0 := by omega
  rw [he] at htm
  clear hodd hev he
  go_enter Try.func37, Try.ntmps37
  go_wp2
  go_loopw [4, 5] (fun v c wr => ∃ k : Nat, k ≤ N ∧ c = .int .i64 (2 * (k : Int)) ∧ (∀ y ∈ l.take (2 * k), dg y < 16) ∧ wr.ownsRow w.heap.size 5 1 v k (((parB l).take k).map byteV) ∧ Below w.heap.size w wr) (fun _ c _ => 2 * N - (intOf c).toNat)
  case atStart => exact ⟨0, by omega, rfl, by simp, World.ownsRow_nil _ _ _ _, Below.refl _ _⟩
  case round =>
    obtain ⟨k, hk, rfl, hval, hown, hB⟩ := hrel
    rcases Nat.lt_or_ge k N with hlk | hge
    · obtain ⟨k0, k1, g1, g2, g3, g4, e1, e2, w1', w2', w3', w4', w5', w6'⟩ := pfacts hlk hs
      have k0' : 2 * k < t.size := hn.symm ▸ k0
      have k1' : 2 * k + 1 < t.size := hn.symm ▸ k1
      obtain ⟨y1, hy1⟩ : ∃ y, t[2 * k]'k0' = y := ⟨_, rfl⟩
      obtain ⟨y2, hy2⟩ : ∃ y, t[2 * k + 1]'k1' = y := ⟨_, rfl⟩
      have q1 : l[2 * k]? = some y1 := by rw [← hl, ← hy1]; exact get_list t _ k0'
      have q2 : l[2 * k + 1]? = some y2 := by rw [← hl, ← hy2]; exact get_list t _ k1'
      have x1 : ∀ h', t[(2 * (k : Int)).toNat]'h' = y1 := fun h' => by simp only [e1]; exact hy1
      have x2 : ∀ h', t[(2 * (k : Int) + 1).toNat]'h' = y2 := fun h' => by simp only [e2]; exact hy2
      have D1 := h54.out y1
      have D2 := h54.out y2
      have hle1 := dg_le y1
      have hle2 := dg_le y2
      obtain ⟨a, hA⟩ : ∃ a, dg y1 = a := ⟨_, rfl⟩
      obtain ⟨b, hBb⟩ : ∃ b, dg y2 = b := ⟨_, rfl⟩
      rw [hA] at D1 hle1
      rw [hBb] at D2 hle2
      have D1 : Hid (∀ (W : World), Calls Try.prog 54 #[.int .u8 (y1.toNat : Int)] W fun e w' => e = .returned (.int .u8 (a : Int)) ∧ w' = W) := D1
      have D2 : Hid (∀ (W : World), Calls Try.prog 54 #[.int .u8 (y2.toNat : Int)] W fun e w' => e = .returned (.int .u8 (b : Int)) ∧ w' = W) := D2
      have HDa : Hid (dg y1 = a) := hA
      have HDb : Hid (dg y2 = b) := hBb
      have HQ : Hid (l[2 * k]? = some y1 ∧ l[2 * k + 1]? = some y2) := ⟨q1, q2⟩
      clear q1 q2 hy1 hy2 e1 e2
      by_cases ha : a = 16
      · have ha1 : ((a : Int) == 16) = true := by simp [ha]
        have hnd : Hid (¬ digs l) := fun h => by have := h.2 y1 (List.mem_of_getElem? HQ.out.1); have := HDa.out; omega
        clear hA hBb HDa HDb
        go_wp2_with (first
          | (go_at_call 54; have mk := mk1; refine (D2.out _).mono ?_; rintro e w2 ⟨rfl, hw2⟩; have hw2 := hw2.symm; subst hw2)
          | (go_at_call 54; refine (D1.out _).mono ?_; rintro e w2 ⟨rfl, hw2⟩; have hw2 := hw2.symm; subst hw2; have mk1 : True := trivial))
        exact bodyPost_ret (results_tmp2 (t := 2) (u := 3) (by kernel_rfl) _ _ _) rfl (HNo.out hnd.out _ hB)
      · have ha1 : ((a : Int) == 16) = false := beq_eq_false_iff_ne.2 (fun h => ha (by omega))
        by_cases hb : b = 16
        · have hb1 : ((b : Int) == 16) = true := by simp [hb]
          have hnd : Hid (¬ digs l) := fun h => by have := h.2 y2 (List.mem_of_getElem? HQ.out.2); have := HDb.out; omega
          clear hA hBb HDa HDb
          go_wp2_with (first
            | (go_at_call 54; have mk := mk1; refine (D2.out _).mono ?_; rintro e w2 ⟨rfl, hw2⟩; have hw2 := hw2.symm; subst hw2)
            | (go_at_call 54; refine (D1.out _).mono ?_; rintro e w2 ⟨rfl, hw2⟩; have hw2 := hw2.symm; subst hw2; have mk1 : True := trivial))
          exact bodyPost_ret (results_tmp2 (t := 2) (u := 3) (by kernel_rfl) _ _ _) rfl (HNo.out hnd.out _ hB)
        · have hb1 : ((b : Int) == 16) = false := beq_eq_false_iff_ne.2 (fun h => hb (by omega))
          obtain ⟨wA, wB⟩ := bfacts (a := a) (b := b) (by omega) (by omega)
          have hM1 : Hid (k + 1 ≤ maxLen) := (mfacts hlk hs).1
          have hM2 : Hid ((k + 1) * 1 ≤ 140737488355328) := (mfacts hlk hs).2
          have own1 := hown.alloc (.cells #[.int .u8 (16 * (a : Int) + (b : Int))] 5)
          have HN : Hid (∀ (j : Nat) (u : Value), [Value.int .u8 (16 * (a : Int) + (b : Int))][j]? = some u → (wr.alloc (.cells #[.int .u8 (16 * (a : Int) + (b : Int))] 5)).cell? ((⟨wr.heap.size, 0, none⟩ : Addr).add j) = some u) := World.news_of_block (heap_alloc_new wr _)
          have le1 : w.heap.size ≤ (wr.alloc (.cells #[.int .u8 (16 * (a : Int) + (b : Int))] 5)).heap.size := Nat.le_trans hB.size (by rw [World.size_alloc]; omega)
          have hv2 : ∀ y ∈ l.take (2 * (k + 1)), dg y < 16 := fun y hy => by
            rw [take_two HQ.out.1 HQ.out.2] at hy
            rcases List.mem_append.1 hy with q | q
            · exact hval y q
            · simp at q
              rcases q with rfl | rfl
              · omega
              · omega
          have HF : Hid (((parB l).take (k + 1)).map byteV = ((parB l).take k).map byteV ++ [.int .u8 (16 * (a : Int) + (b : Int))]) := by
            rw [par_take HQ.out.1 HQ.out.2, List.map_append, List.map_cons, nib_dg (by omega) (by omega), hA, hBb]
            exact rfl
          have HV : Hid (∀ y ∈ l.take (2 * (k + 1)), dg y < 16) := hv2
          clear hv2 hA hBb HDa HDb ha hb hval hown
          go_wp2_with (first
            | (at_builtin; have mk := mk2; refine wpList_append_src rfl (.tmp 34) (.tmp 39) 64 rfl w.heap.size 5 i5 (.int .u8 0) 1 1 und64 F5.out hz5 hs5 hb5 rfl (by omega) _ _ _ own1 rfl [.int .u8 (16 * (a : Int) + (b : Int))] _ _ _ rfl rfl (fun _ => ⟨_, rfl, HN.out⟩) (by intro u hu; simp at hu; subst hu; rfl) hM1.out hM2.out le1 ?_; intro v3 w3 own3 gr3 at3)
            | (go_at_call 54; have mk := mk1; refine (D2.out _).mono ?_; rintro e w2 ⟨rfl, hw2⟩; have hw2 := hw2.symm; subst hw2; have mk2 : True := trivial)
            | (go_at_call 54; refine (D1.out _).mono ?_; rintro e w2 ⟨rfl, hw2⟩; have hw2 := hw2.symm; subst hw2; have mk1 : True := trivial))
          go_roundw
          case rel =>
            refine ⟨k + 1, hlk, by simp; omega, HV.out, ?_, (hB.alloc hB.size _).grown gr3 le1 (fun j e => own_base own1 j e)⟩
            rw [HF.out]
            exact own3
          case measure => simp; omega
    · obtain rfl : k = N := by omega
      rw [List.take_of_length_le (by omega)] at hval
      have hd : Hid (digs l) := ⟨by omega, hval⟩
      have hpl : (parB l).length = k := by rw [parB_len]; omega
      rw [List.take_of_length_le (by omega)] at hown
      have hown' : wr.ownsRow w.heap.size 5 1 u4 (parB l).length ((parB l).map byteV) := by rw [hpl]; exact hown
      have hcv := convert_own hown'
      rw [← HPB.out] at hcv
      obtain ⟨a4, n4, c4, rfl⟩ := own_slice hown'
      have H36 := HYes.out hd.out wr hB
      have gg : ¬ 2 * (k : Int) + 1 < 2 * (k : Int) := by omega
      obtain ⟨w3', w4'⟩ := efacts (k := k) (by omega)
      generalize psV t = PV at *
      generalize psE t = PE at *
      clear hown hown' hpl hval hd
      go_wp2_with (go_at_call 36; refine H36.mono ?_; intro e w2 hM; obtain ⟨a2, c2, rfl, k2, b2⟩ := id hM)
      exact bodyPost_ret (results_tmp2 (t := 2) (u := 3) (by kernel_rfl) _ _ _) rfl hM
end Go.Proofs.Ytbmeflildmeecaa
