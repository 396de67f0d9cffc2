/- The law NetOnce (3): at most 60 calls. -/
import Derived.Test.YtmdoamkockoipaaNtOnA
namespace Go.Proofs.Ytmdoamkockoipaa
open Go.RowKit Go.Maps

set_option maxHeartbeats 12800000 in
set_option maxRecDepth 100000 in
theorem netOnce_le (os : List Opc) (hok : ∀ c ∈ os, okO c) (hcv : os.length ≤ 60) (vo : Value) (w : World) (ho : OpsAt w.heap.size w vo os) : Calls Try.prog 3 #[vo] w fun e w' => e = .returned (.bool true) ∧ Below w.heap.size w w' := by
  obtain ⟨ao, co, rfl⟩ := ho.len
  obtain ⟨N, hN⟩ : ∃ N, w.heap.size = N := ⟨_, rfl⟩
  rw [hN] at ho ⊢
  have HO : Hid (OpsAt N w (.slice ao os.length co) os) := ho
  have HK : Hid (∀ c ∈ os, okO c) := hok
  have aw : Hid (Calls Try.prog 7 #[] w fun e w' => e = .returned (.bool true) ∧ Hid (Below N w w')) := hN ▸ awake_any w
  have HN : Hid (w.heap.size = N) := hN
  clear hN ho hok
  obtain ⟨i34, hi34, hz34, hs34, hb34⟩ := info34x
  have F34 : Hid (Try.prog.info? 34 = some i34) := hi34
  clear hi34
  have hnew : Hid (∀ W, Hid (Below N w W) → Calls Try.prog 8 #[] W fun e w' => ∃ b, e = .returned (.pointer (some ⟨b, 0, none⟩)) ∧ Hid (OnR N w b w'.heap.size 0 (.slice none 0 0) (w'.alloc (.cells (gtV (List.replicate 61 0)).toArray 3)))) := fun W hW => (in_new W.heap.size W rfl).mono fun _ w' ⟨e1, e2, _⟩ => ⟨_, e1, on_start N w W w' (HN.out ▸ hW.out.size) hW.out e2.out⟩
  generalize hno : os.length = no at *
  have HNO : Hid (os.length = no) := hno
  clear hno
  have hmk := make61
  go_enter Try.func3, Try.ntmps3
  go_wp2_with (first
    | (go_at_call 7; refine aw.out.mono ?_; rintro e w1 ⟨rfl, h1⟩; clear aw)
    | (go_at_call 8; refine (hnew.out w1 h1).mono ?_; rintro e w2 ⟨b, rfl, h2⟩; clear hnew h1))
  obtain ⟨gb, hgb⟩ : ∃ gb, w2.heap.size = gb := ⟨_, rfl⟩
  rw [hgb] at h2 ⊢
  clear hgb hmk
  go_loopw [5, 7] (fun x c wr => ∃ i : Nat, c = .int .i64 (i : Int) ∧ i ≤ no ∧ Hid (OnR N w b gb i x wr)) (fun _ c _ => no - (intOf c).toNat)
  case atStart => exact ⟨0, rfl, Nat.zero_le _, h2⟩
  case round =>
    obtain ⟨i, rfl, hi, hE⟩ := hrel
    clear h2
    by_cases hlt : i < no
    · obtain ⟨⟨kd, oa, ob, pk, ⟨s1a, s1n, s1c⟩, s2a, s2n, s2c⟩, hxy⟩ : ∃ p, os[i]? = some p := ⟨_, List.getElem?_eq_getElem (by rw [HNO.out]; omega)⟩
      obtain ⟨k0, k1, k2, k3⟩ := HK.out _ (List.mem_of_getElem? hxy)
      obtain ⟨s, snt, gt, hM, hI⟩ := hE.out
      obtain ⟨g, o, rfl, hcl⟩ := (HO.out.below hM.nin.below).cell i _ hxy
      have c0 : wr.cell? ⟨g, o + i * 6, none⟩ = some (.int .i64 kd) := hcl 0 _ rfl
      have c1 : wr.cell? ⟨g, o + i * 6 + 1, none⟩ = some (.int .i64 oa) := hcl 1 _ rfl
      have c2 : wr.cell? ⟨g, o + i * 6 + 2, none⟩ = some (.int .i64 ob) := hcl 2 _ rfl
      have c3 : wr.cell? ⟨g, o + i * 6 + 3, none⟩ = some (.int .i64 pk) := hcl 3 _ rfl
      have c4 : wr.cell? ⟨g, o + i * 6 + 4, none⟩ = some (.slice s1a s1n s1c) := hcl 4 _ rfl
      have c5 : wr.cell? ⟨g, o + i * 6 + 5, none⟩ = some (.slice s2a s2n s2c) := hcl 5 _ rfl
      have hi60 : i < 60 := by omega
      have q1 : (i : Int) < (no : Int) := by omega
      have q2 : (i : Int) < 60 := by omega
      clear hcl hxy
      have hcv2 : (convert 31 9 (.slice (some ⟨wr.heap.size + 1, 0, none⟩) 1 1)).run Try.prog ((wr.alloc (.cells #[.int .i64 kd, .int .i64 oa, .int .i64 ob, .int .i64 pk, .slice s1a s1n s1c, .slice s2a s2n s2c] 30)).alloc (.cells #[.int .u8 (i : Int)] 5)) = .ok (.string (oneB i)) ((wr.alloc (.cells #[.int .i64 kd, .int .i64 oa, .int .i64 ob, .int .i64 pk, .slice s1a s1n s1c, .slice s2a s2n s2c] 30)).alloc (.cells #[.int .u8 (i : Int)] 5)) := by
        have := conv_one ((wr.alloc (.cells #[.int .i64 kd, .int .i64 oa, .int .i64 ob, .int .i64 pk, .slice s1a s1n s1c, .slice s2a s2n s2c] 30)).alloc (.cells #[.int .u8 (i : Int)] 5)) (wr.alloc (.cells #[.int .i64 kd, .int .i64 oa, .int .i64 ob, .int .i64 pk, .slice s1a s1n s1c, .slice s2a s2n s2c] 30)).heap.size i hi60 ((holds_new _ [.int .u8 (i : Int)] 5).at 0 _ rfl)
        rw [World.size_alloc] at this
        exact this
      have hM1 := hM.box (.cells #[.int .i64 kd, .int .i64 oa, .int .i64 ob, .int .i64 pk, .slice s1a s1n s1c, .slice s2a s2n s2c] 30)
      have hM2 := hM1.alloc (.cells #[.int .u8 (i : Int)] 5)
      have hS0 := on_send hM2 oa ob (oneB i) (by have := hI.ll; omega) (by have := hI.last; omega)
      have hbx2 : Hid (Holds ((wr.alloc (.cells #[.int .i64 kd, .int .i64 oa, .int .i64 ob, .int .i64 pk, .slice s1a s1n s1c, .slice s2a s2n s2c] 30)).alloc (.cells #[.int .u8 (i : Int)] 5)) wr.heap.size [.int .i64 kd, .int .i64 oa, .int .i64 ob, .int .i64 pk, .slice s1a s1n s1c, .slice s2a s2n s2c] 30) := (holds_new wr [.int .i64 kd, .int .i64 oa, .int .i64 ob, .int .i64 pk, .slice s1a s1n s1c, .slice s2a s2n s2c] 30).alloc _
      have hsz2 : ((wr.alloc (.cells #[.int .i64 kd, .int .i64 oa, .int .i64 ob, .int .i64 pk, .slice s1a s1n s1c, .slice s2a s2n s2c] 30)).alloc (.cells #[.int .u8 (i : Int)] 5)).heap.size = wr.heap.size + 2 := by simp
      rw [hsz2] at hS0
      have hrowlt := fun g hg => owns_lt hM.row (g := g) hg
      obtain ⟨av, cv, rfl⟩ := row_slice hM.row
      obtain ⟨OB, hOB⟩ : ∃ OB, wr.heap.size = OB := ⟨_, rfl⟩
      rw [hOB] at hbx2 hS0 hcv2 hrowlt
      have hS : Hid (Calls Try.prog 9 #[.pointer (some ⟨b, 0, none⟩), .int .i64 oa, .int .i64 ob, .slice (some ⟨OB + 2, 0, none⟩) 1 1] (((wr.alloc (.cells #[.int .i64 kd, .int .i64 oa, .int .i64 ob, .int .i64 pk, .slice s1a s1n s1c, .slice s2a s2n s2c] 30)).alloc (.cells #[.int .u8 (i : Int)] 5)).alloc (.cells #[.string (oneB i)] 9)) fun e w' => e = .returned (.int .i64 1) ∧ Hid (OnM N w b gb (fun k => False ∨ k = OB) (addN s oa ob (oneB i)) snt gt (.slice av snt.length cv) w' ∧ BoxK (fun k => False ∨ k = OB) ((wr.alloc (.cells #[.int .i64 kd, .int .i64 oa, .int .i64 ob, .int .i64 pk, .slice s1a s1n s1c, .slice s2a s2n s2c] 30)).alloc (.cells #[.int .u8 (i : Int)] 5)) w')) := hS0
      have hI1 : Hid (OnceI (i + 1) i (addN s oa ob (oneB i)) (snt ++ [((i : Int) + 1, oa, ob, oneB i)]) gt) := hI.send hi60 oa ob k1 k2 (oneB i)
      have hsl : snt.length = i := hI.sl
      have hPush : Hid (∀ w3 v4 w4, Hid (OnM N w b gb (fun k => False ∨ k = OB) (addN s oa ob (oneB i)) snt gt (.slice av snt.length cv) w3 ∧ BoxK (fun k => False ∨ k = OB) ((wr.alloc (.cells #[.int .i64 kd, .int .i64 oa, .int .i64 ob, .int .i64 pk, .slice s1a s1n s1c, .slice s2a s2n s2c] 30)).alloc (.cells #[.int .u8 (i : Int)] 5)) w3) → Hid (Holds w3 OB [.int .i64 kd, .int .i64 oa, .int .i64 ob, .int .i64 pk, .slice s1a s1n s1c, .slice s2a s2n s2c] 30) → w4.ownsRow N 34 4 v4 (snt.length + 1) (mgF snt ++ [.int .i64 ((i : Int) + 1), .int .i64 oa, .int .i64 ob, .string (oneB i)]) → (w3.alloc (.cells #[.int .i64 ((i : Int) + 1), .int .i64 oa, .int .i64 ob, .string (oneB i)] 34)).grownBy w4 (Value.slice av snt.length cv).ownBlock → (v4.ownBlock = (Value.slice av snt.length cv).ownBlock ∨ v4.ownBlock = some (w3.alloc (.cells #[.int .i64 ((i : Int) + 1), .int .i64 oa, .int .i64 ob, .string (oneB i)] 34)).heap.size) →
          Hid (OnM N w b gb (fun k => False ∨ k = OB) (addN s oa ob (oneB i)) (snt ++ [((i : Int) + 1, oa, ob, oneB i)]) gt v4 w4) ∧ Hid (Holds w4 OB [.int .i64 kd, .int .i64 oa, .int .i64 ob, .int .i64 pk, .slice s1a s1n s1c, .slice s2a s2n s2c] 30)) := fun w3 v4 w4 h3 hb3 own4 gr4 loc4 => by
        refine ⟨(h3.out.1.alloc _).push ((i : Int) + 1, oa, ob, oneB i) own4 gr4 loc4, ?_⟩
        have hb3' := hb3.out.alloc (.cells #[.int .i64 ((i : Int) + 1), .int .i64 oa, .int .i64 ob, .string (oneB i)] 34)
        have hlt3 := hb3'.lt
        show Holds w4 OB _ 30
        unfold Holds at *
        rw [gr4.block OB hlt3 (fun e => by have := hrowlt OB e.symm; omega)]; exact hb3'
      have HCN : Hid (snt.length = i) := hsl
      rw [hsl] at hS hPush ⊢
      clear hM hM1 hM2 hS0 hE hI hsz2 hrowlt hsl
      obtain ⟨r, hr⟩ : ∃ r, kd.tmod 4 = r := ⟨_, rfl⟩
      by_cases hr0 : r ≠ 1 ∧ r ≠ -1 ∧ r ≠ 2 ∧ r ≠ -2
      · have e1 : (r == 1) = false := beq_eq_false_iff_ne.2 hr0.1
        have e2 : (r == -1) = false := beq_eq_false_iff_ne.2 hr0.2.1
        have e3 : (r == 2) = false := beq_eq_false_iff_ne.2 hr0.2.2.1
        have e4 : (r == -2) = false := beq_eq_false_iff_ne.2 hr0.2.2.2
        clear hr0
        go_wp2_with (first
          | (go_at_call 9; refine hS.out.mono ?_; rintro e w3 ⟨rfl, h3⟩; clear hS; have hb3 : Holds w3 OB [.int .i64 kd, .int .i64 oa, .int .i64 ob, .int .i64 pk, .slice s1a s1n s1c, .slice s2a s2n s2c] 30 := h3.out.2 OB _ _ (.inr rfl) hbx2.out; have d0 := hb3.at 0 _ rfl; have d1 := hb3.at 1 _ rfl; have d2 := hb3.at 2 _ rfl; have d3 := hb3.at 3 _ rfl; have hrow3 : Hid (w3.ownsRow N 34 4 (.slice av i cv) i (mgF snt)) := (by have := h3.out.1.row; rw [HCN.out] at this; exact this); have hN3 : N ≤ w3.heap.size := h3.out.1.nin.size; have HNC : Hid (∀ (j : Nat) (u : Value), [Value.int .i64 ((i : Int) + 1), .int .i64 oa, .int .i64 ob, .string (oneB i)][j]? = some u → (w3.alloc (.cells #[.int .i64 ((i : Int) + 1), .int .i64 oa, .int .i64 ob, .string (oneB i)] 34)).cell? (Addr.add ⟨w3.heap.size, 0, none⟩ j) = some u) := (fun j u hu => World.news_of_block (heap_alloc_new w3 _) j u hu); have HB3 : Hid (Holds w3 OB [.int .i64 kd, .int .i64 oa, .int .i64 ob, .int .i64 pk, .slice s1a s1n s1c, .slice s2a s2n s2c] 30) := hb3; clear hb3 hbx2)
          | (at_builtin; refine wpList_append_src rfl (.tmp 48) (.tmp 57) 26 rfl N 34 i34 _ 4 40 und26 F34.out hz34 hs34 hb34 (by rfl) (by omega) _ _ _ (hrow3.out.alloc _) rfl [.int .i64 ((i : Int) + 1), .int .i64 oa, .int .i64 ob, .string (oneB i)] _ 1 1 rfl (by rfl) (fun _ => ⟨_, rfl, fun j u hu => HNC.out j u hu⟩) (mgV_one ((i : Int) + 1, oa, ob, oneB i)) (by unfold maxLen; omega) (by omega) (by simp; omega) ?_; intro v4 w4 own4 gr4 loc4; obtain ⟨h4, b4⟩ := hPush.out w3 v4 w4 h3 HB3 own4 gr4 loc4; have f0 := b4.out.at 0 _ rfl; have f1 := b4.out.at 1 _ rfl; have f2 := b4.out.at 2 _ rfl; have f3 := b4.out.at 3 _ rfl; clear own4 gr4 loc4 h3 hrow3 HNC hPush)
          | go_in)
        have hZ : Hid (OnR N w b gb (i + 1) v4 w4) := ⟨_, _, _, h4.out.less (fun k hk => hk.elim), hI1.out.more (by omega)⟩
        go_roundw
        case rel => exact ⟨i + 1, by simp, by omega, hZ⟩
        case measure => simp [intOf]; omega
      · by_cases h1 : r = 1
        · subst h1
          have hI2 : Hid (OnceI (i + 1) (i + 1) ({ addN s oa ob (oneB i) with cuts := cutL (addN s oa ob (oneB i)).cuts ob oa } : Nt) (snt ++ [((i : Int) + 1, oa, ob, oneB i)]) gt) := hI1.out.cut ob oa
          cases hpk : pickO ({ addN s oa ob (oneB i) with cuts := cutL (addN s oa ob (oneB i)).cuts ob oa } : Nt) pk with
          | none =>
            go_wp2_with (first
              | (go_at_call 9; refine hS.out.mono ?_; rintro e w3 ⟨rfl, h3⟩; clear hS; have hb3 : Holds w3 OB [.int .i64 kd, .int .i64 oa, .int .i64 ob, .int .i64 pk, .slice s1a s1n s1c, .slice s2a s2n s2c] 30 := h3.out.2 OB _ _ (.inr rfl) hbx2.out; have d0 := hb3.at 0 _ rfl; have d1 := hb3.at 1 _ rfl; have d2 := hb3.at 2 _ rfl; have d3 := hb3.at 3 _ rfl; have hrow3 : Hid (w3.ownsRow N 34 4 (.slice av i cv) i (mgF snt)) := (by have := h3.out.1.row; rw [HCN.out] at this; exact this); have hN3 : N ≤ w3.heap.size := h3.out.1.nin.size; have HNC : Hid (∀ (j : Nat) (u : Value), [Value.int .i64 ((i : Int) + 1), .int .i64 oa, .int .i64 ob, .string (oneB i)][j]? = some u → (w3.alloc (.cells #[.int .i64 ((i : Int) + 1), .int .i64 oa, .int .i64 ob, .string (oneB i)] 34)).cell? (Addr.add ⟨w3.heap.size, 0, none⟩ j) = some u) := (fun j u hu => World.news_of_block (heap_alloc_new w3 _) j u hu); have HB3 : Hid (Holds w3 OB [.int .i64 kd, .int .i64 oa, .int .i64 ob, .int .i64 pk, .slice s1a s1n s1c, .slice s2a s2n s2c] 30) := hb3; clear hb3 hbx2)
              | (at_builtin; refine wpList_append_src rfl (.tmp 48) (.tmp 57) 26 rfl N 34 i34 _ 4 40 und26 F34.out hz34 hs34 hb34 (by rfl) (by omega) _ _ _ (hrow3.out.alloc _) rfl [.int .i64 ((i : Int) + 1), .int .i64 oa, .int .i64 ob, .string (oneB i)] _ 1 1 rfl (by rfl) (fun _ => ⟨_, rfl, fun j u hu => HNC.out j u hu⟩) (mgV_one ((i : Int) + 1, oa, ob, oneB i)) (by unfold maxLen; omega) (by omega) (by simp; omega) ?_; intro v4 w4 own4 gr4 loc4; obtain ⟨h4, b4⟩ := hPush.out w3 v4 w4 h3 HB3 own4 gr4 loc4; have f0 := b4.out.at 0 _ rfl; have f1 := b4.out.at 1 _ rfl; have f2 := b4.out.at 2 _ rfl; have f3 := b4.out.at 3 _ rfl; clear own4 gr4 loc4 h3 hrow3 HNC hPush)
              | (go_at_call 10; refine (on_cut h4.out ob oa k2 k1 (by have := hI1.out.cl; omega)).mono ?_; rintro e w5 ⟨rfl, h5⟩; have b5 : Holds w5 OB [.int .i64 kd, .int .i64 oa, .int .i64 ob, .int .i64 pk, .slice s1a s1n s1c, .slice s2a s2n s2c] 30 := h5.out.2 OB _ _ (.inr rfl) b4.out; have g3 := b5.at 3 _ rfl; clear b5)
              | (go_at_call 11; refine (on_take_none h5.out.1 hI2.out.ok pk hpk).mono ?_; rintro e w6 ⟨rfl, h6⟩)
              | go_in)
            go_quiet (fail)
            go_wp2
            have hZ : Hid (OnR N w b gb (i + 1) v4 ((w6.alloc (.cells #[.int .i64 0, .int .i64 0, .int .i64 0, .string ⟨#[]⟩] 34)).drewN nq)) := ⟨_, _, _, ((h6.out.1.alloc _).below (below_drewN (Below.refl _ _) _)).less (fun k hk => hk.elim), hI2.out⟩
            go_roundw
            case rel => exact ⟨i + 1, by simp, by omega, hZ⟩
            case measure => simp [intOf]; omega
          | some im =>
            obtain ⟨kk, m1, m2, m3, m4⟩ := im
            obtain ⟨j, hj, hsj, hm1, hgj, hjo, ok2', ok3', _, hI3⟩ := hI2.out.take (by omega) hpk
            obtain ⟨n1, hn1⟩ : ∃ n1, n1 = i + 1 := ⟨_, rfl⟩
            have HN1 : Hid (n1 = i + 1) := hn1
            clear hn1
            have hm1' : m1 = (j : Int) + 1 := hm1
            subst hm1'
            have HSJ : Hid ((snt ++ [((i : Int) + 1, oa, ob, oneB i)])[j]? = some ((j : Int) + 1, m2, m3, m4)) := hsj
            have HGJ : Hid (gt[j + 1]? = some 0) := hgj
            have HJO : Hid (joinedB ({ addN s oa ob (oneB i) with cuts := cutL (addN s oa ob (oneB i)).cuts ob oa } : Nt).cuts m2 m3 = true) := hjo
            have HI3 : Hid (OnceI (i + 1) (i + 1) (dropN ({ addN s oa ob (oneB i) with cuts := cutL (addN s oa ob (oneB i)).cuts ob oa } : Nt) kk) (snt ++ [((i : Int) + 1, oa, ob, oneB i)]) (gt.set (j + 1) 1)) := hI3
            clear hsj hgj hjo hm1 hI3
            go_wp2_with (first
              | (go_at_call 9; refine hS.out.mono ?_; rintro e w3 ⟨rfl, h3⟩; clear hS; have hb3 : Holds w3 OB [.int .i64 kd, .int .i64 oa, .int .i64 ob, .int .i64 pk, .slice s1a s1n s1c, .slice s2a s2n s2c] 30 := h3.out.2 OB _ _ (.inr rfl) hbx2.out; have d0 := hb3.at 0 _ rfl; have d1 := hb3.at 1 _ rfl; have d2 := hb3.at 2 _ rfl; have d3 := hb3.at 3 _ rfl; have hrow3 : Hid (w3.ownsRow N 34 4 (.slice av i cv) i (mgF snt)) := (by have := h3.out.1.row; rw [HCN.out] at this; exact this); have hN3 : N ≤ w3.heap.size := h3.out.1.nin.size; have HNC : Hid (∀ (j : Nat) (u : Value), [Value.int .i64 ((i : Int) + 1), .int .i64 oa, .int .i64 ob, .string (oneB i)][j]? = some u → (w3.alloc (.cells #[.int .i64 ((i : Int) + 1), .int .i64 oa, .int .i64 ob, .string (oneB i)] 34)).cell? (Addr.add ⟨w3.heap.size, 0, none⟩ j) = some u) := (fun j u hu => World.news_of_block (heap_alloc_new w3 _) j u hu); have HB3 : Hid (Holds w3 OB [.int .i64 kd, .int .i64 oa, .int .i64 ob, .int .i64 pk, .slice s1a s1n s1c, .slice s2a s2n s2c] 30) := hb3; clear hb3 hbx2)
              | (at_builtin; refine wpList_append_src rfl (.tmp 48) (.tmp 57) 26 rfl N 34 i34 _ 4 40 und26 F34.out hz34 hs34 hb34 (by rfl) (by omega) _ _ _ (hrow3.out.alloc _) rfl [.int .i64 ((i : Int) + 1), .int .i64 oa, .int .i64 ob, .string (oneB i)] _ 1 1 rfl (by rfl) (fun _ => ⟨_, rfl, fun j u hu => HNC.out j u hu⟩) (mgV_one ((i : Int) + 1, oa, ob, oneB i)) (by unfold maxLen; omega) (by omega) (by simp; omega) ?_; intro v4 w4 own4 gr4 loc4; obtain ⟨h4, b4⟩ := hPush.out w3 v4 w4 h3 HB3 own4 gr4 loc4; have f0 := b4.out.at 0 _ rfl; have f1 := b4.out.at 1 _ rfl; have f2 := b4.out.at 2 _ rfl; have f3 := b4.out.at 3 _ rfl; clear own4 gr4 loc4 h3 hrow3 HNC hPush)
              | (go_at_call 10; refine (on_cut h4.out ob oa k2 k1 (by have := hI1.out.cl; omega)).mono ?_; rintro e w5 ⟨rfl, h5⟩; have b5 : Holds w5 OB [.int .i64 kd, .int .i64 oa, .int .i64 ob, .int .i64 pk, .slice s1a s1n s1c, .slice s2a s2n s2c] 30 := h5.out.2 OB _ _ (.inr rfl) b4.out; have g3 := b5.at 3 _ rfl; clear b5)
              | (go_at_call 11; refine (on_take_some h5.out.1 hI2.out.ok pk k3 kk _ m2 m3 m4 hpk).mono ?_; rintro e w6 ⟨rfl, h6⟩; obtain ⟨g4, c4', ev, hc, hJ, hG⟩ := once_w h6.out.1 HSJ.out HGJ.out (show _ = n1 by rw [List.length_append, HCN.out]; exact HN1.out.symm) HJO.out ok2' ok3'; subst ev; have HCC : Hid (∀ W, Below w6.heap.size w6 W → W.cell? ⟨g4, j * 4, none⟩ = some (.int .i64 ((j : Int) + 1)) ∧ W.cell? ⟨g4, j * 4 + 1, none⟩ = some (.int .i64 m2) ∧ W.cell? ⟨g4, j * 4 + 2, none⟩ = some (.int .i64 m3) ∧ W.cell? ⟨g4, j * 4 + 3, none⟩ = some (.string m4)) := hc; have HJJ : Hid (∀ W, Below w6.heap.size w6 W → Calls Try.prog 12 #[.pointer (some ⟨b, 0, none⟩), .int .i64 m2, .int .i64 m3] W fun e w8 => e = .returned (.bool true) ∧ Below W.heap.size W w8) := hJ; have HGG : Hid (∀ W, Below w6.heap.size w6 W → W.cell? ⟨gb, j + 1, none⟩ = some (.int .i64 0) ∧ W.frozen? ⟨gb, j + 1, none⟩ = false ∧ Hid (OnM N w b gb (fun _ => False) (dropN ({ addN s oa ob (oneB i) with cuts := cutL (addN s oa ob (oneB i)).cuts ob oa } : Nt) kk) (snt ++ [((i : Int) + 1, oa, ob, oneB i)]) (gt.set (j + 1) 1) (.slice (some ⟨g4, 0, none⟩) n1 c4') (W.setCell ⟨gb, j + 1, none⟩ (.int .i64 1)))) := hG; clear hc hJ hG h6 hpk)
              | go_in)
            obtain ⟨M, hM⟩ : ∃ M, w6.heap.size = M := ⟨_, rfl⟩
            have hmb := holds_new w6 [.int .i64 ((j : Int) + 1), .int .i64 m2, .int .i64 m3, .string m4] 34
            rw [hM] at hmb ⊢
            have hb67 : Below w6.heap.size w6 (w6.alloc (.cells #[.int .i64 ((j : Int) + 1), .int .i64 m2, .int .i64 m3, .string m4] 34)) := (Below.refl _ _).alloc (Nat.le_refl _) _
            obtain ⟨w7, hw7⟩ : ∃ w7, w6.alloc (.cells #[.int .i64 ((j : Int) + 1), .int .i64 m2, .int .i64 m3, .string m4] 34) = w7 := ⟨_, rfl⟩
            have e7 : w6.alloc (.cells #[.int .i64 ((j : Int) + 1), .int .i64 m2, .int .i64 m3, .string m4] 34) = w7 := hw7
            rw [e7] at hmb hb67 ⊢
            have hq : ∀ q : Since w7, Below w6.heap.size w6 q.1 := fun q => hb67.trans (q.2.mono hb67.size)
            have T0 : ∀ q : Since w7, q.1.cell? ⟨M, 0, none⟩ = some (.int .i64 ((j : Int) + 1)) := fun q => (hmb.below q.2 hmb.lt).at 0 _ rfl
            have T1 : ∀ q : Since w7, q.1.cell? ⟨M, 1, none⟩ = some (.int .i64 m2) := fun q => (hmb.below q.2 hmb.lt).at 1 _ rfl
            have T2 : ∀ q : Since w7, q.1.cell? ⟨M, 2, none⟩ = some (.int .i64 m3) := fun q => (hmb.below q.2 hmb.lt).at 2 _ rfl
            have T3 : ∀ q : Since w7, q.1.cell? ⟨M, 3, none⟩ = some (.string m4) := fun q => (hmb.below q.2 hmb.lt).at 3 _ rfl
            have Y0 : ∀ q : Since w7, q.1.cell? ⟨g4, j * 4, none⟩ = some (.int .i64 ((j : Int) + 1)) := fun q => (HCC.out _ (hq q)).1
            have Y1 : ∀ q : Since w7, q.1.cell? ⟨g4, j * 4 + 1, none⟩ = some (.int .i64 m2) := fun q => (HCC.out _ (hq q)).2.1
            have Y2 : ∀ q : Since w7, q.1.cell? ⟨g4, j * 4 + 2, none⟩ = some (.int .i64 m3) := fun q => (HCC.out _ (hq q)).2.2.1
            have Y3 : ∀ q : Since w7, q.1.cell? ⟨g4, j * 4 + 3, none⟩ = some (.string m4) := fun q => (HCC.out _ (hq q)).2.2.2
            have JQ : Hid (∀ q : Since w7, Calls Try.prog 12 #[.pointer (some ⟨b, 0, none⟩), .int .i64 m2, .int .i64 m3] q.1 fun e w' => e = .returned (.bool true) ∧ ∃ q : Since w7, w' = q.1) := fun q => (HJJ.out _ (hq q)).mono fun e w' ⟨e1, e2⟩ => ⟨e1, ⟨w', q.2.trans (e2.mono q.2.size)⟩, rfl⟩
            have GQ : Hid (∀ q : Since w7, q.1.cell? ⟨gb, j + 1, none⟩ = some (.int .i64 0) ∧ q.1.frozen? ⟨gb, j + 1, none⟩ = false ∧ Hid (OnR N w b gb (i + 1) (.slice (some ⟨g4, 0, none⟩) n1 c4') (q.1.setCell ⟨gb, j + 1, none⟩ (.int .i64 1)))) := fun q => by
              obtain ⟨z1, z2, z3⟩ := HGG.out q.1 (hq q)
              exact ⟨z1, z2, ⟨_, _, _, z3.out, HI3.out⟩⟩
            have hj1 : ¬ (j : Int) + 1 < 1 := by omega
            have hj2 : ¬ (n1 : Int) < (j : Int) + 1 := by have := HN1.out; omega
            have hj3 : (j : Int) < (n1 : Int) := by have := HN1.out; omega
            have hj4 : j < n1 := by have := HN1.out; omega
            have hj61 : (j : Int) + 1 < 61 := by omega
            have q0 : ∃ q : Since w7, { w7 with drawn := w7.drawn + 1 } = q.1 := ⟨⟨w7.drew, (Below.refl _ _).drew⟩, rfl⟩
            have qn : Nonempty (Since w7) := ⟨⟨w7, Below.refl _ _⟩⟩
            clear hmb hb67 hq hw7 e7 hM HCC HJJ HGG HI3 HSJ HGJ HJO hI1 hI2 h5 h4 b4
            refine region_quiet_in (fun w' => ∃ q : Since w7, w' = q.1) (by kernel_rfl) (by kernel_rfl) q0 ?_
            repeat (go_big_quiet_step (first
              | (go_at_call 12; exact JQ.out _)))
            refine wpQuiet_nil ?_
            intro W hW
            obtain ⟨q, rfl⟩ := hW
            obtain ⟨p8, p9, hZ⟩ := GQ.out q
            clear JQ GQ
            go_wp2
            go_roundw
            case rel => exact ⟨i + 1, by simp, by omega, hZ⟩
            case measure => simp [intOf]; omega
        · by_cases h2 : r = -1
          · subst h2
            have hI2 : Hid (OnceI (i + 1) (i + 1) ({ addN s oa ob (oneB i) with cuts := cutL (addN s oa ob (oneB i)).cuts ob oa } : Nt) (snt ++ [((i : Int) + 1, oa, ob, oneB i)]) gt) := hI1.out.cut ob oa
            cases hpk : pickO ({ addN s oa ob (oneB i) with cuts := cutL (addN s oa ob (oneB i)).cuts ob oa } : Nt) pk with
            | none =>
              go_wp2_with (first
                | (go_at_call 9; refine hS.out.mono ?_; rintro e w3 ⟨rfl, h3⟩; clear hS; have hb3 : Holds w3 OB [.int .i64 kd, .int .i64 oa, .int .i64 ob, .int .i64 pk, .slice s1a s1n s1c, .slice s2a s2n s2c] 30 := h3.out.2 OB _ _ (.inr rfl) hbx2.out; have d0 := hb3.at 0 _ rfl; have d1 := hb3.at 1 _ rfl; have d2 := hb3.at 2 _ rfl; have d3 := hb3.at 3 _ rfl; have hrow3 : Hid (w3.ownsRow N 34 4 (.slice av i cv) i (mgF snt)) := (by have := h3.out.1.row; rw [HCN.out] at this; exact this); have hN3 : N ≤ w3.heap.size := h3.out.1.nin.size; have HNC : Hid (∀ (j : Nat) (u : Value), [Value.int .i64 ((i : Int) + 1), .int .i64 oa, .int .i64 ob, .string (oneB i)][j]? = some u → (w3.alloc (.cells #[.int .i64 ((i : Int) + 1), .int .i64 oa, .int .i64 ob, .string (oneB i)] 34)).cell? (Addr.add ⟨w3.heap.size, 0, none⟩ j) = some u) := (fun j u hu => World.news_of_block (heap_alloc_new w3 _) j u hu); have HB3 : Hid (Holds w3 OB [.int .i64 kd, .int .i64 oa, .int .i64 ob, .int .i64 pk, .slice s1a s1n s1c, .slice s2a s2n s2c] 30) := hb3; clear hb3 hbx2)
                | (at_builtin; refine wpList_append_src rfl (.tmp 48) (.tmp 57) 26 rfl N 34 i34 _ 4 40 und26 F34.out hz34 hs34 hb34 (by rfl) (by omega) _ _ _ (hrow3.out.alloc _) rfl [.int .i64 ((i : Int) + 1), .int .i64 oa, .int .i64 ob, .string (oneB i)] _ 1 1 rfl (by rfl) (fun _ => ⟨_, rfl, fun j u hu => HNC.out j u hu⟩) (mgV_one ((i : Int) + 1, oa, ob, oneB i)) (by unfold maxLen; omega) (by omega) (by simp; omega) ?_; intro v4 w4 own4 gr4 loc4; obtain ⟨h4, b4⟩ := hPush.out w3 v4 w4 h3 HB3 own4 gr4 loc4; have f0 := b4.out.at 0 _ rfl; have f1 := b4.out.at 1 _ rfl; have f2 := b4.out.at 2 _ rfl; have f3 := b4.out.at 3 _ rfl; clear own4 gr4 loc4 h3 hrow3 HNC hPush)
                | (go_at_call 10; refine (on_cut h4.out ob oa k2 k1 (by have := hI1.out.cl; omega)).mono ?_; rintro e w5 ⟨rfl, h5⟩; have b5 : Holds w5 OB [.int .i64 kd, .int .i64 oa, .int .i64 ob, .int .i64 pk, .slice s1a s1n s1c, .slice s2a s2n s2c] 30 := h5.out.2 OB _ _ (.inr rfl) b4.out; have g3 := b5.at 3 _ rfl; clear b5)
                | (go_at_call 11; refine (on_take_none h5.out.1 hI2.out.ok pk hpk).mono ?_; rintro e w6 ⟨rfl, h6⟩)
                | go_in)
              go_quiet (fail)
              go_wp2
              have hZ : Hid (OnR N w b gb (i + 1) v4 ((w6.alloc (.cells #[.int .i64 0, .int .i64 0, .int .i64 0, .string ⟨#[]⟩] 34)).drewN nq)) := ⟨_, _, _, ((h6.out.1.alloc _).below (below_drewN (Below.refl _ _) _)).less (fun k hk => hk.elim), hI2.out⟩
              go_roundw
              case rel => exact ⟨i + 1, by simp, by omega, hZ⟩
              case measure => simp [intOf]; omega
            | some im =>
              obtain ⟨kk, m1, m2, m3, m4⟩ := im
              obtain ⟨j, hj, hsj, hm1, hgj, hjo, ok2', ok3', _, hI3⟩ := hI2.out.take (by omega) hpk
              obtain ⟨n1, hn1⟩ : ∃ n1, n1 = i + 1 := ⟨_, rfl⟩
              have HN1 : Hid (n1 = i + 1) := hn1
              clear hn1
              have hm1' : m1 = (j : Int) + 1 := hm1
              subst hm1'
              have HSJ : Hid ((snt ++ [((i : Int) + 1, oa, ob, oneB i)])[j]? = some ((j : Int) + 1, m2, m3, m4)) := hsj
              have HGJ : Hid (gt[j + 1]? = some 0) := hgj
              have HJO : Hid (joinedB ({ addN s oa ob (oneB i) with cuts := cutL (addN s oa ob (oneB i)).cuts ob oa } : Nt).cuts m2 m3 = true) := hjo
              have HI3 : Hid (OnceI (i + 1) (i + 1) (dropN ({ addN s oa ob (oneB i) with cuts := cutL (addN s oa ob (oneB i)).cuts ob oa } : Nt) kk) (snt ++ [((i : Int) + 1, oa, ob, oneB i)]) (gt.set (j + 1) 1)) := hI3
              clear hsj hgj hjo hm1 hI3
              go_wp2_with (first
                | (go_at_call 9; refine hS.out.mono ?_; rintro e w3 ⟨rfl, h3⟩; clear hS; have hb3 : Holds w3 OB [.int .i64 kd, .int .i64 oa, .int .i64 ob, .int .i64 pk, .slice s1a s1n s1c, .slice s2a s2n s2c] 30 := h3.out.2 OB _ _ (.inr rfl) hbx2.out; have d0 := hb3.at 0 _ rfl; have d1 := hb3.at 1 _ rfl; have d2 := hb3.at 2 _ rfl; have d3 := hb3.at 3 _ rfl; have hrow3 : Hid (w3.ownsRow N 34 4 (.slice av i cv) i (mgF snt)) := (by have := h3.out.1.row; rw [HCN.out] at this; exact this); have hN3 : N ≤ w3.heap.size := h3.out.1.nin.size; have HNC : Hid (∀ (j : Nat) (u : Value), [Value.int .i64 ((i : Int) + 1), .int .i64 oa, .int .i64 ob, .string (oneB i)][j]? = some u → (w3.alloc (.cells #[.int .i64 ((i : Int) + 1), .int .i64 oa, .int .i64 ob, .string (oneB i)] 34)).cell? (Addr.add ⟨w3.heap.size, 0, none⟩ j) = some u) := (fun j u hu => World.news_of_block (heap_alloc_new w3 _) j u hu); have HB3 : Hid (Holds w3 OB [.int .i64 kd, .int .i64 oa, .int .i64 ob, .int .i64 pk, .slice s1a s1n s1c, .slice s2a s2n s2c] 30) := hb3; clear hb3 hbx2)
                | (at_builtin; refine wpList_append_src rfl (.tmp 48) (.tmp 57) 26 rfl N 34 i34 _ 4 40 und26 F34.out hz34 hs34 hb34 (by rfl) (by omega) _ _ _ (hrow3.out.alloc _) rfl [.int .i64 ((i : Int) + 1), .int .i64 oa, .int .i64 ob, .string (oneB i)] _ 1 1 rfl (by rfl) (fun _ => ⟨_, rfl, fun j u hu => HNC.out j u hu⟩) (mgV_one ((i : Int) + 1, oa, ob, oneB i)) (by unfold maxLen; omega) (by omega) (by simp; omega) ?_; intro v4 w4 own4 gr4 loc4; obtain ⟨h4, b4⟩ := hPush.out w3 v4 w4 h3 HB3 own4 gr4 loc4; have f0 := b4.out.at 0 _ rfl; have f1 := b4.out.at 1 _ rfl; have f2 := b4.out.at 2 _ rfl; have f3 := b4.out.at 3 _ rfl; clear own4 gr4 loc4 h3 hrow3 HNC hPush)
                | (go_at_call 10; refine (on_cut h4.out ob oa k2 k1 (by have := hI1.out.cl; omega)).mono ?_; rintro e w5 ⟨rfl, h5⟩; have b5 : Holds w5 OB [.int .i64 kd, .int .i64 oa, .int .i64 ob, .int .i64 pk, .slice s1a s1n s1c, .slice s2a s2n s2c] 30 := h5.out.2 OB _ _ (.inr rfl) b4.out; have g3 := b5.at 3 _ rfl; clear b5)
                | (go_at_call 11; refine (on_take_some h5.out.1 hI2.out.ok pk k3 kk _ m2 m3 m4 hpk).mono ?_; rintro e w6 ⟨rfl, h6⟩; obtain ⟨g4, c4', ev, hc, hJ, hG⟩ := once_w h6.out.1 HSJ.out HGJ.out (show _ = n1 by rw [List.length_append, HCN.out]; exact HN1.out.symm) HJO.out ok2' ok3'; subst ev; have HCC : Hid (∀ W, Below w6.heap.size w6 W → W.cell? ⟨g4, j * 4, none⟩ = some (.int .i64 ((j : Int) + 1)) ∧ W.cell? ⟨g4, j * 4 + 1, none⟩ = some (.int .i64 m2) ∧ W.cell? ⟨g4, j * 4 + 2, none⟩ = some (.int .i64 m3) ∧ W.cell? ⟨g4, j * 4 + 3, none⟩ = some (.string m4)) := hc; have HJJ : Hid (∀ W, Below w6.heap.size w6 W → Calls Try.prog 12 #[.pointer (some ⟨b, 0, none⟩), .int .i64 m2, .int .i64 m3] W fun e w8 => e = .returned (.bool true) ∧ Below W.heap.size W w8) := hJ; have HGG : Hid (∀ W, Below w6.heap.size w6 W → W.cell? ⟨gb, j + 1, none⟩ = some (.int .i64 0) ∧ W.frozen? ⟨gb, j + 1, none⟩ = false ∧ Hid (OnM N w b gb (fun _ => False) (dropN ({ addN s oa ob (oneB i) with cuts := cutL (addN s oa ob (oneB i)).cuts ob oa } : Nt) kk) (snt ++ [((i : Int) + 1, oa, ob, oneB i)]) (gt.set (j + 1) 1) (.slice (some ⟨g4, 0, none⟩) n1 c4') (W.setCell ⟨gb, j + 1, none⟩ (.int .i64 1)))) := hG; clear hc hJ hG h6 hpk)
                | go_in)
              obtain ⟨M, hM⟩ : ∃ M, w6.heap.size = M := ⟨_, rfl⟩
              have hmb := holds_new w6 [.int .i64 ((j : Int) + 1), .int .i64 m2, .int .i64 m3, .string m4] 34
              rw [hM] at hmb ⊢
              have hb67 : Below w6.heap.size w6 (w6.alloc (.cells #[.int .i64 ((j : Int) + 1), .int .i64 m2, .int .i64 m3, .string m4] 34)) := (Below.refl _ _).alloc (Nat.le_refl _) _
              obtain ⟨w7, hw7⟩ : ∃ w7, w6.alloc (.cells #[.int .i64 ((j : Int) + 1), .int .i64 m2, .int .i64 m3, .string m4] 34) = w7 := ⟨_, rfl⟩
              have e7 : w6.alloc (.cells #[.int .i64 ((j : Int) + 1), .int .i64 m2, .int .i64 m3, .string m4] 34) = w7 := hw7
              rw [e7] at hmb hb67 ⊢
              have hq : ∀ q : Since w7, Below w6.heap.size w6 q.1 := fun q => hb67.trans (q.2.mono hb67.size)
              have T0 : ∀ q : Since w7, q.1.cell? ⟨M, 0, none⟩ = some (.int .i64 ((j : Int) + 1)) := fun q => (hmb.below q.2 hmb.lt).at 0 _ rfl
              have T1 : ∀ q : Since w7, q.1.cell? ⟨M, 1, none⟩ = some (.int .i64 m2) := fun q => (hmb.below q.2 hmb.lt).at 1 _ rfl
              have T2 : ∀ q : Since w7, q.1.cell? ⟨M, 2, none⟩ = some (.int .i64 m3) := fun q => (hmb.below q.2 hmb.lt).at 2 _ rfl
              have T3 : ∀ q : Since w7, q.1.cell? ⟨M, 3, none⟩ = some (.string m4) := fun q => (hmb.below q.2 hmb.lt).at 3 _ rfl
              have Y0 : ∀ q : Since w7, q.1.cell? ⟨g4, j * 4, none⟩ = some (.int .i64 ((j : Int) + 1)) := fun q => (HCC.out _ (hq q)).1
              have Y1 : ∀ q : Since w7, q.1.cell? ⟨g4, j * 4 + 1, none⟩ = some (.int .i64 m2) := fun q => (HCC.out _ (hq q)).2.1
              have Y2 : ∀ q : Since w7, q.1.cell? ⟨g4, j * 4 + 2, none⟩ = some (.int .i64 m3) := fun q => (HCC.out _ (hq q)).2.2.1
              have Y3 : ∀ q : Since w7, q.1.cell? ⟨g4, j * 4 + 3, none⟩ = some (.string m4) := fun q => (HCC.out _ (hq q)).2.2.2
              have JQ : Hid (∀ q : Since w7, Calls Try.prog 12 #[.pointer (some ⟨b, 0, none⟩), .int .i64 m2, .int .i64 m3] q.1 fun e w' => e = .returned (.bool true) ∧ ∃ q : Since w7, w' = q.1) := fun q => (HJJ.out _ (hq q)).mono fun e w' ⟨e1, e2⟩ => ⟨e1, ⟨w', q.2.trans (e2.mono q.2.size)⟩, rfl⟩
              have GQ : Hid (∀ q : Since w7, q.1.cell? ⟨gb, j + 1, none⟩ = some (.int .i64 0) ∧ q.1.frozen? ⟨gb, j + 1, none⟩ = false ∧ Hid (OnR N w b gb (i + 1) (.slice (some ⟨g4, 0, none⟩) n1 c4') (q.1.setCell ⟨gb, j + 1, none⟩ (.int .i64 1)))) := fun q => by
                obtain ⟨z1, z2, z3⟩ := HGG.out q.1 (hq q)
                exact ⟨z1, z2, ⟨_, _, _, z3.out, HI3.out⟩⟩
              have hj1 : ¬ (j : Int) + 1 < 1 := by omega
              have hj2 : ¬ (n1 : Int) < (j : Int) + 1 := by have := HN1.out; omega
              have hj3 : (j : Int) < (n1 : Int) := by have := HN1.out; omega
              have hj4 : j < n1 := by have := HN1.out; omega
              have hj61 : (j : Int) + 1 < 61 := by omega
              have q0 : ∃ q : Since w7, { w7 with drawn := w7.drawn + 1 } = q.1 := ⟨⟨w7.drew, (Below.refl _ _).drew⟩, rfl⟩
              have qn : Nonempty (Since w7) := ⟨⟨w7, Below.refl _ _⟩⟩
              clear hmb hb67 hq hw7 e7 hM HCC HJJ HGG HI3 HSJ HGJ HJO hI1 hI2 h5 h4 b4
              refine region_quiet_in (fun w' => ∃ q : Since w7, w' = q.1) (by kernel_rfl) (by kernel_rfl) q0 ?_
              repeat (go_big_quiet_step (first
                | (go_at_call 12; exact JQ.out _)))
              refine wpQuiet_nil ?_
              intro W hW
              obtain ⟨q, rfl⟩ := hW
              obtain ⟨p8, p9, hZ⟩ := GQ.out q
              clear JQ GQ
              go_wp2
              go_roundw
              case rel => exact ⟨i + 1, by simp, by omega, hZ⟩
              case measure => simp [intOf]; omega
          · by_cases h3 : r = 2
            · subst h3
              go_wp2_with (first
                | (go_at_call 9; refine hS.out.mono ?_; rintro e w3 ⟨rfl, h3⟩; clear hS; have hb3 : Holds w3 OB [.int .i64 kd, .int .i64 oa, .int .i64 ob, .int .i64 pk, .slice s1a s1n s1c, .slice s2a s2n s2c] 30 := h3.out.2 OB _ _ (.inr rfl) hbx2.out; have d0 := hb3.at 0 _ rfl; have d1 := hb3.at 1 _ rfl; have d2 := hb3.at 2 _ rfl; have d3 := hb3.at 3 _ rfl; have hrow3 : Hid (w3.ownsRow N 34 4 (.slice av i cv) i (mgF snt)) := (by have := h3.out.1.row; rw [HCN.out] at this; exact this); have hN3 : N ≤ w3.heap.size := h3.out.1.nin.size; have HNC : Hid (∀ (j : Nat) (u : Value), [Value.int .i64 ((i : Int) + 1), .int .i64 oa, .int .i64 ob, .string (oneB i)][j]? = some u → (w3.alloc (.cells #[.int .i64 ((i : Int) + 1), .int .i64 oa, .int .i64 ob, .string (oneB i)] 34)).cell? (Addr.add ⟨w3.heap.size, 0, none⟩ j) = some u) := (fun j u hu => World.news_of_block (heap_alloc_new w3 _) j u hu); have HB3 : Hid (Holds w3 OB [.int .i64 kd, .int .i64 oa, .int .i64 ob, .int .i64 pk, .slice s1a s1n s1c, .slice s2a s2n s2c] 30) := hb3; clear hb3 hbx2)
                | (at_builtin; refine wpList_append_src rfl (.tmp 48) (.tmp 57) 26 rfl N 34 i34 _ 4 40 und26 F34.out hz34 hs34 hb34 (by rfl) (by omega) _ _ _ (hrow3.out.alloc _) rfl [.int .i64 ((i : Int) + 1), .int .i64 oa, .int .i64 ob, .string (oneB i)] _ 1 1 rfl (by rfl) (fun _ => ⟨_, rfl, fun j u hu => HNC.out j u hu⟩) (mgV_one ((i : Int) + 1, oa, ob, oneB i)) (by unfold maxLen; omega) (by omega) (by simp; omega) ?_; intro v4 w4 own4 gr4 loc4; obtain ⟨h4, b4⟩ := hPush.out w3 v4 w4 h3 HB3 own4 gr4 loc4; have f0 := b4.out.at 0 _ rfl; have f1 := b4.out.at 1 _ rfl; have f2 := b4.out.at 2 _ rfl; have f3 := b4.out.at 3 _ rfl; clear own4 gr4 loc4 h3 hrow3 HNC hPush)
                | (go_at_call 13; refine (on_heal1 h4.out oa k1 (by have := hI1.out.cl; omega)).mono ?_; rintro e w5 ⟨k5, rfl, h5⟩)
                | go_in)
              have hZ : Hid (OnR N w b gb (i + 1) v4 w5) := ⟨_, _, _, h5.out.less (fun k hk => hk.elim), (hI1.out.heal _).more (by omega)⟩
              go_roundw
              case rel => exact ⟨i + 1, by simp, by omega, hZ⟩
              case measure => simp [intOf]; omega
            · obtain rfl : r = -2 := by omega
              go_wp2_with (first
                | (go_at_call 9; refine hS.out.mono ?_; rintro e w3 ⟨rfl, h3⟩; clear hS; have hb3 : Holds w3 OB [.int .i64 kd, .int .i64 oa, .int .i64 ob, .int .i64 pk, .slice s1a s1n s1c, .slice s2a s2n s2c] 30 := h3.out.2 OB _ _ (.inr rfl) hbx2.out; have d0 := hb3.at 0 _ rfl; have d1 := hb3.at 1 _ rfl; have d2 := hb3.at 2 _ rfl; have d3 := hb3.at 3 _ rfl; have hrow3 : Hid (w3.ownsRow N 34 4 (.slice av i cv) i (mgF snt)) := (by have := h3.out.1.row; rw [HCN.out] at this; exact this); have hN3 : N ≤ w3.heap.size := h3.out.1.nin.size; have HNC : Hid (∀ (j : Nat) (u : Value), [Value.int .i64 ((i : Int) + 1), .int .i64 oa, .int .i64 ob, .string (oneB i)][j]? = some u → (w3.alloc (.cells #[.int .i64 ((i : Int) + 1), .int .i64 oa, .int .i64 ob, .string (oneB i)] 34)).cell? (Addr.add ⟨w3.heap.size, 0, none⟩ j) = some u) := (fun j u hu => World.news_of_block (heap_alloc_new w3 _) j u hu); have HB3 : Hid (Holds w3 OB [.int .i64 kd, .int .i64 oa, .int .i64 ob, .int .i64 pk, .slice s1a s1n s1c, .slice s2a s2n s2c] 30) := hb3; clear hb3 hbx2)
                | (at_builtin; refine wpList_append_src rfl (.tmp 48) (.tmp 57) 26 rfl N 34 i34 _ 4 40 und26 F34.out hz34 hs34 hb34 (by rfl) (by omega) _ _ _ (hrow3.out.alloc _) rfl [.int .i64 ((i : Int) + 1), .int .i64 oa, .int .i64 ob, .string (oneB i)] _ 1 1 rfl (by rfl) (fun _ => ⟨_, rfl, fun j u hu => HNC.out j u hu⟩) (mgV_one ((i : Int) + 1, oa, ob, oneB i)) (by unfold maxLen; omega) (by omega) (by simp; omega) ?_; intro v4 w4 own4 gr4 loc4; obtain ⟨h4, b4⟩ := hPush.out w3 v4 w4 h3 HB3 own4 gr4 loc4; have f0 := b4.out.at 0 _ rfl; have f1 := b4.out.at 1 _ rfl; have f2 := b4.out.at 2 _ rfl; have f3 := b4.out.at 3 _ rfl; clear own4 gr4 loc4 h3 hrow3 HNC hPush)
                | (go_at_call 13; refine (on_heal1 h4.out oa k1 (by have := hI1.out.cl; omega)).mono ?_; rintro e w5 ⟨k5, rfl, h5⟩)
                | go_in)
              have hZ : Hid (OnR N w b gb (i + 1) v4 w5) := ⟨_, _, _, h5.out.less (fun k hk => hk.elim), (hI1.out.heal _).more (by omega)⟩
              go_roundw
              case rel => exact ⟨i + 1, by simp, by omega, hZ⟩
              case measure => simp [intOf]; omega
    · have HI : Hid (i = no) := by
        show i = no
        omega
      have x1 : ¬ (i : Int) < (no : Int) := by have := HI.out; omega
      have hi60 : i ≤ 60 := by omega
      obtain ⟨s, snt, gt, hM, hI⟩ := hE.out
      obtain ⟨av, cv, rfl⟩ := row_slice hM.row
      have hsl : snt.length = i := hI.sl
      have HSL : Hid (snt.length = i) := hsl
      have hHe : Hid (Calls Try.prog 13 #[.pointer (some ⟨b, 0, none⟩), .slice none 0 0] wr fun e w' => ∃ k, e = .returned (.int .i64 k) ∧ Hid (OnM N w b gb (fun _ => False) (healN s []) snt gt (.slice av snt.length cv) w')) := on_heal hM (by have := hI.cl; omega)
      have hI0 : Hid (OnceI i i (healN s []) snt gt ∧ (healN s []).cuts = [] ∧ 0 + (healN s []).l.length ≤ i) := ⟨hI.heal [], heal_all _, by have := hI.ll; show 0 + s.l.length ≤ i; omega⟩
      rw [hsl] at hHe ⊢
      clear hM hI hsl hE hlt
      go_wp2_with (first
        | (go_at_call 13; refine hHe.out.mono ?_; rintro e w5 ⟨k5, rfl, h5⟩; clear hHe))
      go_loopw [12] (fun c wr => ∃ k : Nat, c = .int .i64 (k : Int) ∧ k ≤ i ∧ Hid (∃ s gt, OnM N w b gb (fun _ => False) s snt gt (.slice av i cv) wr ∧ OnceI i i s snt gt ∧ s.cuts = [] ∧ k + s.l.length ≤ i)) (fun c _ => i + 1 - (intOf c).toNat)
      case atStart => exact ⟨0, rfl, Nat.zero_le _, ⟨_, _, h5.out, hI0.out⟩⟩
      case round =>
        obtain ⟨k, rfl, hk, hR⟩ := hrel
        clear h5 hI0
        obtain ⟨s2, gt2, hM2, hI2, hc2, hl2⟩ := hR.out
        have HM2 : Hid (OnM N w b gb (fun _ => False) s2 snt gt2 (.slice av i cv) wr) := hM2
        have HI2 : Hid (OnceI i i s2 snt gt2) := hI2
        have HC2 : Hid (s2.cuts = []) := hc2
        have HL2 : Hid (k + s2.l.length ≤ i) := hl2
        clear hR hM2 hI2 hc2 hl2
        have hkc : (k : Int) < (i : Int) + 1 := by omega
        have hk3 : okI ((k : Int) * 3) := (okI_iff _).2 (by omega)
        cases hpk : pickO s2 ((k : Int) * 3) with
        | none =>
          have hT : Hid (Calls Try.prog 11 #[.pointer (some ⟨b, 0, none⟩), .int .i64 ((k : Int) * 3)] wr fun e w' => e = .returned (.tuple #[.agg #[.int .i64 0, .int .i64 0, .int .i64 0, .string ⟨#[]⟩], .bool false]) ∧ Hid (OnM N w b gb (fun _ => False) s2 snt gt2 (.slice av i cv) w')) := (on_take_none HM2.out HI2.out.ok _ hpk).mono fun _ _ ⟨e1, e2⟩ => ⟨e1, e2.out.1⟩
          have hl0 : s2.l = [] := pick_nil HC2.out hpk
          have HD : Hid (∀ j : Nat, j < i → gt2[j + 1]? = some 1) := HI2.out.done hl0
          have HMY : Hid ((mayL s2).length = 0) := by
            show (mayL s2).length = 0
            unfold mayL
            rw [hl0]; rfl
          have HOK : Hid (OkS s2) := HI2.out.ok
          clear hpk hl0 HM2 HI2 HL2
          go_wp2_with (first
            | (go_at_call 11; refine hT.out.mono ?_; rintro e w6 ⟨rfl, h6⟩; clear hT))
          have h7 : Hid (OnM N w b gb (fun _ => False) s2 snt gt2 (.slice av i cv) (w6.alloc (.cells #[.int .i64 0, .int .i64 0, .int .i64 0, .string ⟨#[]⟩] 34))) := h6.out.alloc _
          generalize w6.alloc (.cells #[.int .i64 0, .int .i64 0, .int .i64 0, .string ⟨#[]⟩] 34) = w7 at h7 ⊢
          clear h6
          go_loopw [15] (fun c wr => ∃ t : Nat, c = .int .i64 (t : Int) ∧ 1 ≤ t ∧ t ≤ i + 1 ∧ wr = w7) (fun c _ => i + 2 - (intOf c).toNat)
          case atStart => exact ⟨1, rfl, Nat.le_refl _, by omega, rfl⟩
          case round =>
            obtain ⟨t, rfl, ht1, ht2, rfl⟩ := hrel
            by_cases hlt : t ≤ i
            · have hg := (h7.out.cell t 1 (by have := HD.out (t - 1) (by omega); rw [show t - 1 + 1 = t by omega] at this; exact this)).1
              have hti : (t : Int) ≤ (i : Int) := by omega
              have ht61 : (t : Int) < 61 := by omega
              go_wp2
              go_roundw
              case rel => exact ⟨t + 1, by simp, by omega, by omega, (by first | rfl | trivial)⟩
              case measure => simp [intOf]; omega
            · have hti : ¬ (t : Int) ≤ (i : Int) := by omega
              have hW : Hid (Calls Try.prog 14 #[.pointer (some ⟨b, 0, none⟩), .slice none 0 0] wr fun e w' => ∃ a c, e = .returned (.slice a 0 c) ∧ Hid (Below N w w')) := (in_waits h7.out.nin HOK.out).mono fun _ _ ⟨a, c, e1, e2⟩ => ⟨a, c, HMY.out ▸ e1, e2.out.1.below⟩
              clear h7
              go_wp2_with (go_at_call 14; refine hW.out.mono ?_; rintro e w9 ⟨a9, c9, rfl, h9⟩; clear hW)
              go_ret
              exact ⟨rfl, h9.out⟩
        | some im =>
          obtain ⟨kk, m1, m2, m3, m4⟩ := im
          obtain ⟨j, hj, hsj, hm1, hgj, hjo, ok2', ok3', hle, hI3⟩ := HI2.out.take hi60 hpk
          have hm1' : m1 = (j : Int) + 1 := hm1
          subst hm1'
          have HL3 : Hid (k + 1 + (dropN s2 kk).l.length ≤ i) := by
            have := HL2.out
            show k + 1 + (dropN s2 kk).l.length ≤ i
            omega
          have HSJ : Hid (snt[j]? = some ((j : Int) + 1, m2, m3, m4)) := hsj
          have HGJ : Hid (gt2[j + 1]? = some 0) := hgj
          have HJO : Hid (joinedB s2.cuts m2 m3 = true) := hjo
          have HI3 : Hid (OnceI i i (dropN s2 kk) snt (gt2.set (j + 1) 1)) := hI3
          have hT : Hid (Calls Try.prog 11 #[.pointer (some ⟨b, 0, none⟩), .int .i64 ((k : Int) * 3)] wr fun e w' => e = .returned (.tuple #[.agg #[.int .i64 ((j : Int) + 1), .int .i64 m2, .int .i64 m3, .string m4], .bool true]) ∧ Hid (OnM N w b gb (fun _ => False) (dropN s2 kk) snt gt2 (.slice av i cv) w')) := (on_take_some HM2.out HI2.out.ok _ hk3 kk _ m2 m3 m4 hpk).mono fun _ _ ⟨e1, e2⟩ => ⟨e1, e2.out.1⟩
          clear hsj hgj hjo hm1 hI3 hle HM2 HI2 HL2 hpk
          go_wp2_with (first
            | (go_at_call 11; refine hT.out.mono ?_; rintro e w6 ⟨rfl, h6⟩; clear hT; obtain ⟨g4, c4', ev, hc, hJ, hG⟩ := once_w h6.out HSJ.out HGJ.out HSL.out HJO.out ok2' ok3'; obtain ⟨ev1, -, ev2⟩ := Value.slice.inj ev; subst ev1 ev2; have HCC : Hid (∀ W, Below w6.heap.size w6 W → W.cell? ⟨g4, j * 4, none⟩ = some (.int .i64 ((j : Int) + 1)) ∧ W.cell? ⟨g4, j * 4 + 1, none⟩ = some (.int .i64 m2) ∧ W.cell? ⟨g4, j * 4 + 2, none⟩ = some (.int .i64 m3) ∧ W.cell? ⟨g4, j * 4 + 3, none⟩ = some (.string m4)) := hc; have HGG : Hid (∀ W, Below w6.heap.size w6 W → W.cell? ⟨gb, j + 1, none⟩ = some (.int .i64 0) ∧ W.frozen? ⟨gb, j + 1, none⟩ = false ∧ Hid (OnM N w b gb (fun _ => False) (dropN s2 kk) snt (gt2.set (j + 1) 1) (.slice (some ⟨g4, 0, none⟩) i cv) (W.setCell ⟨gb, j + 1, none⟩ (.int .i64 1)))) := hG; clear hc hJ hG h6 ev))
          obtain ⟨M, hM⟩ : ∃ M, w6.heap.size = M := ⟨_, rfl⟩
          have hmb := holds_new w6 [.int .i64 ((j : Int) + 1), .int .i64 m2, .int .i64 m3, .string m4] 34
          rw [hM] at hmb ⊢
          have hb67 : Below w6.heap.size w6 (w6.alloc (.cells #[.int .i64 ((j : Int) + 1), .int .i64 m2, .int .i64 m3, .string m4] 34)) := (Below.refl _ _).alloc (Nat.le_refl _) _
          obtain ⟨w7, hw7⟩ : ∃ w7, w6.alloc (.cells #[.int .i64 ((j : Int) + 1), .int .i64 m2, .int .i64 m3, .string m4] 34) = w7 := ⟨_, rfl⟩
          have e7 : w6.alloc (.cells #[.int .i64 ((j : Int) + 1), .int .i64 m2, .int .i64 m3, .string m4] 34) = w7 := hw7
          rw [e7] at hmb hb67 ⊢
          have hq : ∀ q : Since w7, Below w6.heap.size w6 q.1 := fun q => hb67.trans (q.2.mono hb67.size)
          have T0 : ∀ q : Since w7, q.1.cell? ⟨M, 0, none⟩ = some (.int .i64 ((j : Int) + 1)) := fun q => (hmb.below q.2 hmb.lt).at 0 _ rfl
          have T1 : ∀ q : Since w7, q.1.cell? ⟨M, 1, none⟩ = some (.int .i64 m2) := fun q => (hmb.below q.2 hmb.lt).at 1 _ rfl
          have T2 : ∀ q : Since w7, q.1.cell? ⟨M, 2, none⟩ = some (.int .i64 m3) := fun q => (hmb.below q.2 hmb.lt).at 2 _ rfl
          have T3 : ∀ q : Since w7, q.1.cell? ⟨M, 3, none⟩ = some (.string m4) := fun q => (hmb.below q.2 hmb.lt).at 3 _ rfl
          have Y0 : ∀ q : Since w7, q.1.cell? ⟨g4, j * 4, none⟩ = some (.int .i64 ((j : Int) + 1)) := fun q => (HCC.out _ (hq q)).1
          have Y1 : ∀ q : Since w7, q.1.cell? ⟨g4, j * 4 + 1, none⟩ = some (.int .i64 m2) := fun q => (HCC.out _ (hq q)).2.1
          have Y2 : ∀ q : Since w7, q.1.cell? ⟨g4, j * 4 + 2, none⟩ = some (.int .i64 m3) := fun q => (HCC.out _ (hq q)).2.2.1
          have Y3 : ∀ q : Since w7, q.1.cell? ⟨g4, j * 4 + 3, none⟩ = some (.string m4) := fun q => (HCC.out _ (hq q)).2.2.2
          have GQ : Hid (∀ q : Since w7, q.1.cell? ⟨gb, j + 1, none⟩ = some (.int .i64 0) ∧ q.1.frozen? ⟨gb, j + 1, none⟩ = false ∧ Hid (∃ s gt, OnM N w b gb (fun _ => False) s snt gt (.slice (some ⟨g4, 0, none⟩) i cv) (q.1.setCell ⟨gb, j + 1, none⟩ (.int .i64 1)) ∧ OnceI i i s snt gt ∧ s.cuts = [] ∧ k + 1 + s.l.length ≤ i)) := fun q => by
            obtain ⟨z1, z2, z3⟩ := HGG.out q.1 (hq q)
            exact ⟨z1, z2, ⟨_, _, z3.out, HI3.out, HC2.out, HL3.out⟩⟩
          have hj1 : ¬ (j : Int) + 1 < 1 := by omega
          have hj2 : ¬ (i : Int) < (j : Int) + 1 := by omega
          have hj3 : (j : Int) < (i : Int) := by omega
          have hj61 : (j : Int) + 1 < 61 := by omega
          have q0 : ∃ q : Since w7, { w7 with drawn := w7.drawn + 1 } = q.1 := ⟨⟨w7.drew, (Below.refl _ _).drew⟩, rfl⟩
          have qn : Nonempty (Since w7) := ⟨⟨w7, Below.refl _ _⟩⟩
          have hkk : k + 1 ≤ i := by have := HL3.out; omega
          clear hmb hb67 hq hw7 e7 hM HCC HGG HI3 HSJ HGJ HJO
          refine region_quiet_in (fun w' => ∃ q : Since w7, w' = q.1) (by kernel_rfl) (by kernel_rfl) q0 ?_
          repeat (go_big_quiet_step (fail))
          refine wpQuiet_nil ?_
          intro W hW
          obtain ⟨q, rfl⟩ := hW
          obtain ⟨p8, p9, hZ⟩ := GQ.out q
          clear GQ
          go_wp2
          go_roundw
          case rel => exact ⟨k + 1, by simp, hkk, hZ⟩
          case measure => simp [intOf]; omega
end Go.Proofs.Ytmdoamkockoipaa
