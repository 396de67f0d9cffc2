/- What package gossip's hear does. -/
import Derived.Test.YthmnjebmnocoiaaGreatYGsMem
namespace Go.Proofs.YthmnjebmnocoiaaGreat
open Go.RowKit

theorem foldl_take_succ' {α β : Type} (f : β → α → β) (b : β) (l : List α) (k : Nat) (x : α) (h : l[k]? = some x) : (l.take (k + 1)).foldl f b = f ((l.take k).foldl f b) x := by
  rw [List.take_add_one, h, List.foldl_append]; rfl
theorem hear_step (k : Kn) (l : List Mb) (i : Nat) (m : Mb) (h : l[i]? = some m) : hearL k (l.take (i + 1)) = hear1 (hearL k (l.take i)) m := foldl_take_succ' _ _ _ _ _ h
theorem Upd.to {b : Nat} {x y z : World} (h : Upd b x y) (k : Below y.heap.size y z) : Upd b x z := h.trans (Upd.ofBelow k)
set_option maxRecDepth 100000 in
set_option maxHeartbeats 4000000 in
theorem hear_any (B : Nat) (l : List Mb) (v : Value) (k : Kn) (mb : Nat) (w : World) (hv : Mems B w v l) (hk : KnAt w mb k) (hr : Right k) (hB : B ≤ mb) :
    Calls Tryz.prog 34 #[.map (some mb), v] w fun e w' => e = .returned (.tuple #[]) ∧ KnAt w' mb (hearL k l) ∧ Upd mb w w' := by
  obtain ⟨N, hN⟩ : ∃ N, w.heap.size = N := ⟨_, rfl⟩
  have hmb : mb < N := hN ▸ hk.lt
  obtain ⟨a, cap, rfl⟩ := hv.len
  have hle := hv.le
  have hnew := newerMember_any w
  rw [hN] at hnew
  obtain ⟨n, hn⟩ : ∃ n, l.length = n := ⟨_, rfl⟩
  have Hl : Hid (l.length = n) := hn
  have HV : Hid (Mems B w (.slice a l.length cap) l) := hv
  have HK : Hid (KnAt w mb k) := hk
  rw [hn] at hle ⊢
  have hle' : (n : Int) ≤ 9223372036854775807 := by unfold maxLen at hle; omega
  clear hv hk hn hle
  go_enter Tryz.func34, Tryz.ntmps34
  go_wp2_with (go_at_call 61; refine hnew.mono ?_; rintro e w1 ⟨rfl, h1⟩)
  have HB1 : Hid (Below N w w1) := h1.below
  have HH1 : Hid (Holds w1 N [.func (.func 88) #[] #[]] 121) := h1.holds
  have HS1 : Hid (w1.heap.size = N + 1) := h1.size
  clear hnew h1
  go_loopw [10] (fun c wr => ∃ i : Nat, i ≤ n ∧ c = .int .i64 (i : Int) ∧ Hid (KnAt wr mb (hearL k (l.take i)) ∧ Upd mb w1 wr)) (fun c _ => n - (intOf c).toNat)
  case atStart => exact ⟨0, Nat.zero_le _, rfl, HK.out.below HB1.out hmb, Upd.refl _ _⟩
  case round =>
  obtain ⟨i, hi, rfl, hI⟩ := hrel
  by_cases hlt : i < n
  · have hlt' : (i : Int) < (n : Int) := by omega
    have hi0 : (0 : Int) ≤ (i : Int) := by omega
    obtain ⟨⟨m1, m2, m3⟩, hm⟩ : ∃ m, l[i]? = some m := ⟨_, List.getElem?_eq_getElem (by rw [Hl.out]; exact hlt)⟩
    have HM : Hid (l[i]? = some (m1, m2, m3)) := hm
    obtain ⟨hK, hU⟩ := hI.out
    have hVr : Mems B wr (.slice a l.length cap) l := HV.out.keep fun g hg => by
      rw [hU.block g (by rw [HS1.out]; omega) (by omega), HB1.out.block g (by omega)]
    obtain ⟨g, o, rfl, hgB, c0, c1, c2⟩ := hVr.cell i _ hm
    have HR : Hid (Right (hearL k (l.take i))) := hearL_right _ hr
    have HU : Hid (Upd mb w1 wr) := hU
    have HK2 : Hid (KnAt wr mb (hearL k (l.take i))) := hK
    obtain ⟨M, hM⟩ : ∃ M, wr.heap.size = M := ⟨_, rfl⟩
    have hMN : N + 1 ≤ M := by have := hU.size; rw [HS1.out, hM] at this; exact this
    have hst := hear_step k l i _ hm
    generalize hearL k (l.take i) = kk at hst HR HK2 hI
    clear hI hK hU hVr hm
    have hN1 := fun W => isNode_any m1 W
    have hkeep : Hid (∀ W, Below M wr W → KnAt W mb kk ∧ Upd mb w1 W) := fun W hW => ⟨HK2.out.below hW (by omega), HU.out.to (hM ▸ hW)⟩
    by_cases hok : okM (m1, m2, m3) = true
    · obtain ⟨hn1, hs1⟩ := (okM_iff _).1 hok
      have hn1' : isN m1 = true := (isN_iff m1).2 hn1
      simp only at hs1
      have hx1 : ¬ m2 < 1 := by omega
      have hx2 : ¬ 3 < m2 := by omega
      have hx1' : decide (m2 < 1) = false := by simpa using hx1
      have hx2' : decide (3 < m2) = false := by simpa using hx2
      rw [hn1'] at hN1
      have hI1 : I64 m1 := ⟨by omega, by omega⟩
      have hlook : ∀ W, Below M wr W → (Instr.lookup 56 (.map (some mb)) (.int .i64 m1) false).run Tryz.prog W = .ok (.agg (mbV (kk m1)).toArray) W := fun W hW => (hkeep.out W hW).1.look HR.out m1 hI1
      obtain ⟨⟨k1, k2, k3⟩, hkm⟩ : ∃ q, kk m1 = q := ⟨_, rfl⟩
      rw [hkm] at hlook
      have hcmp : Hid (∀ W, Holds W N [.func (.func 88) #[] #[]] 121 → Calls Tryz.prog 104 #[.agg #[.int .i64 m1, .int .i64 m2, .int .u64 (m3 : Int)], .agg #[.int .i64 k1, .int .i64 k2, .int .u64 (k3 : Int)], .pointer (some ⟨N, 0, none⟩)] W fun e w' => e = .returned (.int .i64 (cmpAge m3 k3 m2 k2)) ∧ Below W.heap.size W w') := fun W h => newerM_any (m1, m2, m3) (k1, k2, k3) N W h
      have hcp : 0 < cmpAge m3 k3 m2 k2 ↔ newM (m1, m2, m3) (k1, k2, k3) = true := by rw [cmpAge_pos, newM_iff]
      generalize cmpAge m3 k3 m2 k2 = cc at hcmp hcp
      have HHr : Hid (∀ W, Below M wr W → Holds W N [.func (.func 88) #[] #[]] 121) := fun W hW => (HH1.out.upd HU.out (by omega)).below hW (by omega)
      by_cases hcc : 0 < cc
      · have hnw := hcp.1 hcc
        have hst2 : hear1 kk (m1, m2, m3) = upd kk (m1, m2, m3) := by unfold hear1; rw [hkm, hok, hnw]; rfl
        rw [hst2] at hst
        go_wp2_with (first
          | (refine wpList_alloc_new 6 rfl rfl 53 rfl M hM _ zero35 ?_; intro w2 h2)
          | (refine wpList_store_all rfl 53 _ _ rfl M rfl (mbV (m1, m2, m3)) rfl 53 _ h2.holds siz35 rfl (mbV_one _) ?_; intro w3 h3; have b3 : Below M wr w3 := h2.below.trans (h3.below (Nat.le_refl _)); have p0 := h3.holds.at 0 _ rfl; have p1 := h3.holds.at 1 _ rfl; have p2 := h3.holds.at 2 _ rfl; have hlk := hlook w3 b3)
          | (go_at_call 37; refine (hN1 _).mono ?_; rintro e w4 ⟨rfl, rfl⟩)
          | (go_at_call 104; refine (hcmp.out _ (HHr.out _ b3)).mono ?_; rintro e w5 ⟨rfl, b5⟩; have b35 : Below M wr w5 := b3.trans (b5.mono (by rw [h3.size, h2.size]; omega)); have H5 := h3.holds.below b5 (by rw [h3.size, h2.size]; omega); have s0 := H5.at 0 _ rfl; have s1 := H5.at 1 _ rfl; have s2 := H5.at 2 _ rfl; obtain ⟨w6, hrun, K6, U6⟩ := (hkeep.out w5 b35).1.store HR.out (m1, m2, m3) hok; have hrun' : (Instr.mapUpdate 56 (.map (some mb)) (.int .i64 m1) (.agg #[.int .i64 m1, .int .i64 m2, .int .u64 (m3 : Int)])).run Tryz.prog w5 = .ok () w6 := hrun; clear hrun))
        exact ⟨⟨i + 1, by omega, by go_num, by rw [hst]; exact ⟨K6, (hkeep.out w5 b35).2.trans U6⟩⟩, by simp [intOf]; omega⟩
      · have hcc' : decide (0 < cc) = false := by simpa using hcc
        have hnw : newM (m1, m2, m3) (k1, k2, k3) = false := by
          cases hq : newM (m1, m2, m3) (k1, k2, k3)
          · rfl
          · exact absurd (hcp.2 hq) hcc
        have hst2 : hear1 kk (m1, m2, m3) = kk := by unfold hear1; rw [hkm, hok, hnw]; rfl
        rw [hst2] at hst
        go_wp2_with (first
          | (refine wpList_alloc_new 6 rfl rfl 53 rfl M hM _ zero35 ?_; intro w2 h2)
          | (refine wpList_store_all rfl 53 _ _ rfl M rfl (mbV (m1, m2, m3)) rfl 53 _ h2.holds siz35 rfl (mbV_one _) ?_; intro w3 h3; have b3 : Below M wr w3 := h2.below.trans (h3.below (Nat.le_refl _)); have p0 := h3.holds.at 0 _ rfl; have p1 := h3.holds.at 1 _ rfl; have p2 := h3.holds.at 2 _ rfl; have hlk := hlook w3 b3)
          | (go_at_call 37; refine (hN1 _).mono ?_; rintro e w4 ⟨rfl, rfl⟩)
          | (go_at_call 104; refine (hcmp.out _ (HHr.out _ b3)).mono ?_; rintro e w5 ⟨rfl, b5⟩))
        have b35 : Below M wr w5 := b3.trans (b5.mono (by rw [h3.size, h2.size]; omega))
        exact ⟨⟨i + 1, by omega, by go_num, by rw [hst]; exact hkeep.out w5 b35⟩, by simp [intOf]; omega⟩
    · have hst2 : hear1 kk (m1, m2, m3) = kk := by
        unfold hear1
        simp only [hok, Bool.false_and]; rfl
      rw [hst2] at hst
      by_cases q1 : isN m1 = true
      · rw [q1] at hN1
        by_cases q2 : m2 < 1
        · go_wp2_with (first
          | (refine wpList_alloc_new 6 rfl rfl 53 rfl M hM _ zero35 ?_; intro w2 h2)
          | (refine wpList_store_all rfl 53 _ _ rfl M rfl (mbV (m1, m2, m3)) rfl 53 _ h2.holds siz35 rfl (mbV_one _) ?_; intro w3 h3; have b3 : Below M wr w3 := h2.below.trans (h3.below (Nat.le_refl _)); have p0 := h3.holds.at 0 _ rfl; have p1 := h3.holds.at 1 _ rfl)
          | (go_at_call 37; refine (hN1 _).mono ?_; rintro e w4 ⟨rfl, rfl⟩))
          exact ⟨⟨i + 1, by omega, by go_num, by rw [hst]; exact hkeep.out _ b3⟩, by simp [intOf]; omega⟩
        · have q2' : decide (m2 < 1) = false := by simpa using q2
          have q3 : 3 < m2 := by
            rcases Int.lt_or_le 3 m2 with g | g
            · exact g
            · exact absurd ((okM_iff _).2 ⟨(isN_iff _).1 q1, by show 1 ≤ m2; omega, g⟩) hok
          go_wp2_with (first
          | (refine wpList_alloc_new 6 rfl rfl 53 rfl M hM _ zero35 ?_; intro w2 h2)
          | (refine wpList_store_all rfl 53 _ _ rfl M rfl (mbV (m1, m2, m3)) rfl 53 _ h2.holds siz35 rfl (mbV_one _) ?_; intro w3 h3; have b3 : Below M wr w3 := h2.below.trans (h3.below (Nat.le_refl _)); have p0 := h3.holds.at 0 _ rfl; have p1 := h3.holds.at 1 _ rfl)
          | (go_at_call 37; refine (hN1 _).mono ?_; rintro e w4 ⟨rfl, rfl⟩))
          exact ⟨⟨i + 1, by omega, by go_num, by rw [hst]; exact hkeep.out _ b3⟩, by simp [intOf]; omega⟩
      · have q1' : isN m1 = false := by simpa using q1
        rw [q1'] at hN1
        go_wp2_with (first
          | (refine wpList_alloc_new 6 rfl rfl 53 rfl M hM _ zero35 ?_; intro w2 h2)
          | (refine wpList_store_all rfl 53 _ _ rfl M rfl (mbV (m1, m2, m3)) rfl 53 _ h2.holds siz35 rfl (mbV_one _) ?_; intro w3 h3; have b3 : Below M wr w3 := h2.below.trans (h3.below (Nat.le_refl _)); have p0 := h3.holds.at 0 _ rfl; have p1 := h3.holds.at 1 _ rfl)
          | (go_at_call 37; refine (hN1 _).mono ?_; rintro e w4 ⟨rfl, rfl⟩))
        exact ⟨⟨i + 1, by omega, by go_num, by rw [hst]; exact hkeep.out _ b3⟩, by simp [intOf]; omega⟩
  · have e8 : l.take i = l := List.take_of_length_le (by rw [Hl.out]; omega)
    rw [e8] at hI
    have i1 : ¬ (i : Int) < (n : Int) := by omega
    go_wp2
    go_end0
    exact ⟨rfl, hI.out.1, (Upd.ofBelow (hN ▸ HB1.out)).trans hI.out.2⟩
end Go.Proofs.YthmnjebmnocoiaaGreat
