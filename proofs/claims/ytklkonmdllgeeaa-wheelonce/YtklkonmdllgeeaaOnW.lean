/- The law WheelOnce (4). -/
import Derived.Test.YtklkonmdllgeeaaOnM
import Derived.Deep.Cut
import Derived.Deep.RegionHeld3
import Derived.Deep.QuietTactic
import Derived.Deep.OwnRows
namespace Go.Proofs.Ytklkonmdllgeeaa
open Go.RowKit

theorem full3 : (Try.prog.info? 3).map (fun i => (i.zero, i.size, i.bytes)) = some (some (.int .i64 0), 1, 8) := by kernel_rfl
theorem full4 : (Try.prog.info? 4).map (fun i => (i.zero, i.size, i.bytes)) = some (some (.bool false), 1, 1) := by kernel_rfl
theorem und44 : Try.prog.underlying 44 = some (.slice 3) := by kernel_rfl
theorem und45 : Try.prog.underlying 45 = some (.slice 4) := by kernel_rfl
theorem make_ints (w : World) : (Instr.makeSlice 44 (.int .i64 5) (.int .i64 5)).run Try.prog w = .ok (.slice (some ⟨w.heap.size, 0, none⟩) 5 5) (w.alloc (.cells #[.int .i64 0, .int .i64 0, .int .i64 0, .int .i64 0, .int .i64 0] 3)) := by kernel_rfl
theorem make_bools (w : World) : (Instr.makeSlice 45 (.int .i64 5) (.int .i64 5)).run Try.prog w = .ok (.slice (some ⟨w.heap.size, 0, none⟩) 5 5) (w.alloc (.cells #[.bool false, .bool false, .bool false, .bool false, .bool false] 4)) := by kernel_rfl
/-- The law's own at the start. -/
theorem on_start (W : World) : On W.heap.size W [] 0 [0, 0, 0, 0, 0] [false, false, false, false, false] ((((W.alloc (.cells #[.map none, .int .u64 0] 50)).alloc (.cells #[.string ⟨#[97]⟩, .string ⟨#[98]⟩, .string ⟨#[99]⟩, .string ⟨#[100]⟩, .string ⟨#[101]⟩] 9)).alloc (.cells #[.int .i64 0, .int .i64 0, .int .i64 0, .int .i64 0, .int .i64 0] 3)).alloc (.cells #[.bool false, .bool false, .bool false, .bool false, .bool false] 4)) := by
  have h0 : Win W.heap.size W.heap.size W [] 0 (W.alloc (.cells #[.map none, .int .u64 0] 50)) := ⟨wheel_new _ W (Nat.le_refl _), WUpd.ofBelow ((Below.refl _ _).alloc (Nat.le_refl _) _) (Nat.le_refl _)⟩
  refine ⟨((h0.alloc _).alloc _).alloc _, ?_, ?_, ?_⟩
  · have := ((holds_new (W.alloc (.cells #[.map none, .int .u64 0] 50)) (namesV five) 9).alloc (.cells #[.int .i64 0, .int .i64 0, .int .i64 0, .int .i64 0, .int .i64 0] 3)).alloc (.cells #[.bool false, .bool false, .bool false, .bool false, .bool false] 4)
    rw [World.size_alloc] at this
    exact this
  · have := (holds_new ((W.alloc (.cells #[.map none, .int .u64 0] 50)).alloc (.cells #[.string ⟨#[97]⟩, .string ⟨#[98]⟩, .string ⟨#[99]⟩, .string ⟨#[100]⟩, .string ⟨#[101]⟩] 9)) (intsV [0, 0, 0, 0, 0]) 3).alloc (.cells #[.bool false, .bool false, .bool false, .bool false, .bool false] 4)
    rw [World.size_alloc, World.size_alloc] at this
    exact this
  · have := holds_new (((W.alloc (.cells #[.map none, .int .u64 0] 50)).alloc (.cells #[.string ⟨#[97]⟩, .string ⟨#[98]⟩, .string ⟨#[99]⟩, .string ⟨#[100]⟩, .string ⟨#[101]⟩] 9)).alloc (.cells #[.int .i64 0, .int .i64 0, .int .i64 0, .int .i64 0, .int .i64 0] 3)) (boolsV [false, false, false, false, false]) 4
    rw [World.size_alloc, World.size_alloc, World.size_alloc] at this
    exact this
/-- The names that were due lie there. -/
def DueAt (B : Nat) (ks : List (List UInt8)) (da : Option Addr) (W : World) : Prop := ∀ i k, ks[i]? = some k → ∃ g, da = some ⟨g, 0, none⟩ ∧ B + 4 ≤ g ∧ W.cell? ⟨g, i, none⟩ = some (.string (strL k))
theorem On.drewN {B : Nat} {w : World} {l : Ts} {t : Nat} {las : List Int} {set : List Bool} {W : World} (h : On B w l t las set W) (q : Nat) : On B w l t las set (W.drewN q) := by
  have hb : Below W.heap.size W (W.drewN q) := belowD _ _ _
  exact h.next (WUpd.ofBelow hb h.win.low) (h.win.below hb h.win.low)
/-- What is held at the head of the law's loop. -/
structure Oh (B : Nat) (w : World) (i : Nat) (W : World) : Prop where
  ex : ∃ l t las set, On B w l t las set W ∧ Lk l las set ∧ t ≤ i
set_option maxHeartbeats 3200000 in
set_option maxRecDepth 100000 in
theorem wheelOnce_walk (hsort : SortOk) (ops : List (Int × Int)) (ts : List Int) (hops : ∀ o ∈ ops, I63 o.1 ∧ I63 o.2) (hol : ops.length ≤ maxLen) (htl : ts.length ≤ maxLen) (va vb : Value) (w : World) (hA : Asks w.heap.size w va ops) (hT : Ints w.heap.size w vb ts) :
    Calls Try.prog 4 #[va, vb] w fun e w' => e = .returned (.bool true) ∧ Below w.heap.size w w' := by
  obtain ⟨a, ca, rfl, hA'⟩ := id hA
  obtain ⟨b, cb, rfl, hT'⟩ := id hT
  clear hA' hT'
  have HA : Hid (Asks w.heap.size w (.slice a ops.length ca) ops) := hA
  have HT : Hid (Ints w.heap.size w (.slice b ts.length cb) ts) := hT
  have HO : Hid (∀ o ∈ ops, I63 o.1 ∧ I63 o.2) := hops
  obtain ⟨lo, hlo⟩ : ∃ lo, ops.length = lo := ⟨_, rfl⟩
  obtain ⟨lt, hlt⟩ : ∃ lt, ts.length = lt := ⟨_, rfl⟩
  have HLO : Hid (ops.length = lo) := hlo
  have HLT : Hid (ts.length = lt) := hlt
  rw [hlo] at hol ⊢
  rw [hlt] at htl ⊢
  obtain ⟨M, hM⟩ : ∃ M, w.heap.size = M := ⟨_, rfl⟩
  have HM : Hid (w.heap.size = M) := hM
  rw [hM]
  have hol' : (lo : Int) ≤ 9223372036854775807 := by unfold maxLen at hol; omega
  have htl' : (lt : Int) ≤ 9223372036854775807 := by unfold maxLen at htl; omega
  have haw : Hid (Calls Try.prog 6 #[] w fun e w' => e = .returned (.bool true) ∧ Hid (Below w.heap.size w w')) := awake_any hsort w
  have hnew : Hid (∀ W, Calls Try.prog 7 #[] W fun e w' => e = .returned (.pointer (some ⟨W.heap.size, 0, none⟩)) ∧ w' = W.alloc (.cells #[.map none, .int .u64 0] 50)) := fun W => new_any W
  have hmi := make_ints
  have hmb := make_bools
  clear hA hT hops hlo hlt hol htl hM
  go_enter Try.func4, Try.ntmps4
  go_upto_region 9 with (first
    | (go_at_call 6; refine haw.out.mono ?_; rintro e w1 ⟨rfl, hb1⟩; clear haw; have hon := on_start w1; have HON : Hid (On w1.heap.size w1 [] 0 [0, 0, 0, 0, 0] [false, false, false, false, false] ((((w1.alloc (.cells #[.map none, .int .u64 0] 50)).alloc (.cells #[.string ⟨#[97]⟩, .string ⟨#[98]⟩, .string ⟨#[99]⟩, .string ⟨#[100]⟩, .string ⟨#[101]⟩] 9)).alloc (.cells #[.int .i64 0, .int .i64 0, .int .i64 0, .int .i64 0, .int .i64 0] 3)).alloc (.cells #[.bool false, .bool false, .bool false, .bool false, .bool false] 4))) := hon; clear hon)
    | (go_at_call 7; refine (hnew.out _).mono ?_; rintro e w2 ⟨rfl, e2⟩; rw [e2]; clear e2 hnew))
  obtain ⟨B, hB⟩ : ∃ B, w1.heap.size = B := ⟨_, rfl⟩
  rw [hB] at HON ⊢
  generalize (((w1.alloc (.cells #[.map none, .int .u64 0] 50)).alloc (.cells #[.string ⟨#[97]⟩, .string ⟨#[98]⟩, .string ⟨#[99]⟩, .string ⟨#[100]⟩, .string ⟨#[101]⟩] 9)).alloc (.cells #[.int .i64 0, .int .i64 0, .int .i64 0, .int .i64 0, .int .i64 0] 3)).alloc (.cells #[.bool false, .bool false, .bool false, .bool false, .bool false] 4) = w5 at HON ⊢
  have HB : Hid (w1.heap.size = B) := hB
  have hMB : M ≤ B := by have := hb1.out.size; rw [HM.out, hB] at this; exact this
  have HB1 : Hid (Below M w w1) := by have := hb1.out; rw [HM.out] at this; exact this
  obtain ⟨G1, hG1⟩ : ∃ G1, B + 1 = G1 := ⟨_, rfl⟩
  obtain ⟨G2, hG2⟩ : ∃ G2, G1 + 1 = G2 := ⟨_, rfl⟩
  obtain ⟨G3, hG3⟩ : ∃ G3, G2 + 1 = G3 := ⟨_, rfl⟩
  rw [hG1, hG2, hG3]
  have HG1 : Hid (B + 1 = G1) := hG1
  have HG2 : Hid (B + 2 = G2) := by show B + 2 = G2; omega
  have HG3 : Hid (B + 3 = G3) := by show B + 3 = G3; omega
  have HSo : Hid SortOk := hsort
  clear hB hb1 hmi hmb hG1 hG2 hsort
  go_loopw [10] (fun c wr => ∃ i : Nat, c = .int .i64 (i : Int) ∧ i ≤ 60 ∧ Hid (Oh B w1 i wr)) (fun c _ => 60 - (intOf c).toNat)
  case atStart => exact ⟨0, rfl, by omega, ⟨_, _, _, _, HON.out, lk_nil, Nat.le_refl _⟩⟩
  case round =>
    clear HON
    obtain ⟨i, rfl, hi, hR⟩ := hrel
    by_cases hgo : i < lo ∧ i < 60
    · obtain ⟨hg1, hg2⟩ := hgo
      obtain ⟨l, t, las, set, hOn, hLk, hti⟩ := hR.out.ex
      obtain ⟨⟨kind, at_⟩, ho⟩ : ∃ o, ops[i]? = some o := ⟨_, List.getElem?_eq_getElem (by rw [HLO.out]; exact hg1)⟩
      obtain ⟨ga, oa, rfl, hcA⟩ := HA.out.cell ho
      have hbW : Below M w wr := HB1.out.trans (hOn.low.mono hMB)
      rw [HM.out] at hcA
      obtain ⟨c0, c1⟩ := hcA wr hbW
      have g1 : (i : Int) < (lo : Int) := by omega
      have g2 : (i : Int) < 60 := by omega
      have HON : Hid (On B w1 l t las set wr) := hOn
      have HLK : Hid (Lk l las set) := hLk
      have HCA : Hid (∀ W, Below M w W → W.cell? ⟨ga, oa + i * 3, none⟩ = some (.int .i64 kind) ∧ W.cell? ⟨ga, oa + i * 3 + 1, none⟩ = some (.int .i64 at_)) := hcA
      have hat : at_ ≤ 9223372036854775807 := (HO.out _ (List.mem_of_getElem? ho)).2.2
      have hm1 : -5 < kind.tmod 5 := by have := Int.lt_tmod_of_pos kind (show (0 : Int) < 5 by decide); omega
      have hm2 : kind.tmod 5 < 5 := Int.tmod_lt_of_pos kind (by decide)
      clear hR hOn hLk ho hcA hbW
      by_cases hneg : kind.tmod 5 < 0
      · obtain ⟨kk, hkk⟩ : ∃ kk : Nat, -kind.tmod 5 = (kk : Int) := ⟨(-kind.tmod 5).toNat, by omega⟩
        have hk5 : kk < 5 := by omega
        have hwr : wrap64 (-kind.tmod 5) = (kk : Int) := by rw [hkk]; exact IntWalk.wrap64_in _ (by omega)
        go_upto_region 14 with fail
        clear hwr hneg hkk hm1 hm2
        have i0 : (0 : Int) ≤ (kk : Int) := by omega
        have i5 : (kk : Int) < 5 := by omega
        have n1 : wr.cell? ⟨G1, kk, none⟩ = some (.string (strL (nm kk))) := by rw [← HG1.out]; exact HON.out.nm hk5
        have HSET : Hid (Calls Try.prog 13 #[.pointer (some ⟨B, 0, none⟩), .int .i64 at_, .slice (some ⟨wr.heap.size, 0, none⟩) 1 1] (wr.alloc (.cells #[.string (strL (nm kk))] 9)).drew fun e w' => e = .returned (.tuple #[]) ∧ Hid (On B w1 (setT (nm kk) at_ (t + 1) l) (t + 1) las set w')) := on_set HON.out.drew at_ kk hk5 (by omega)
        have c1' : (wr.alloc (.cells #[.string (strL (nm kk))] 9)).drew.cell? ⟨ga, oa + i * 3 + 1, none⟩ = some (.int .i64 at_) := (HCA.out _ (HB1.out.trans ((HON.out.alloc _).drew.low.mono hMB))).2
        have n1' : (wr.alloc (.cells #[.string (strL (nm kk))] 9)).drew.cell? ⟨G1, kk, none⟩ = some (.string (strL (nm kk))) := by rw [← HG1.out]; exact (HON.out.alloc _).drew.nm hk5
        obtain ⟨nk, hnk⟩ : ∃ nk, nm kk = nk := ⟨_, rfl⟩
        have HNK : Hid (nm kk = nk) := hnk
        rw [hnk] at n1 HSET c1' n1'
        clear hnk
        go_region_held3 (fun W => W.cell? ⟨ga, oa + i * 3 + 1, none⟩ = some (.int .i64 at_) ∧ W.cell? ⟨G1, kk, none⟩ = some (.string (strL nk)))
          (first
            | exact ⟨c1, n1⟩
            | exact ⟨c1', n1'⟩
            | exact ⟨d1, d2⟩)
          (first
            | (go_at_call 13; refine HSET.out.mono ?_; rintro e w6 ⟨rfl, On6⟩; have d1 := (HCA.out w6 (HB1.out.trans (On6.out.low.mono hMB))).2; have d2 : w6.cell? ⟨G1, kk, none⟩ = some (.string (strL nk)) := by rw [← HNK.out, ← HG1.out]; exact On6.out.nm hk5))
        rename_i hHeld
        clear hHeld c0 c1 n1 c1' n1' HSET d2
        have s1 : w6.cell? ⟨G2, kk, none⟩ = some (.int .i64 (las.getD kk 0)) := by rw [← HG2.out]; exact On6.out.lastAt (by rw [HLK.out.las5]; exact hk5)
        have s2 : w6.cell? ⟨G3, kk, none⟩ = some (.bool (set.getD kk false)) := by rw [← HG3.out]; exact On6.out.setAt (by rw [HLK.out.set5]; exact hk5)
        have f1 : w6.frozen? ⟨G2, kk, none⟩ = false := by rw [← HG2.out]; exact On6.out.last.frozen kk
        have f2 : w6.frozen? ⟨G3, kk, none⟩ = false := by rw [← HG3.out]; exact On6.out.sets.frozen kk
        have HON7 : Hid (On B w1 (setT nk at_ (t + 1) l) (t + 1) (las.set kk at_) (set.set kk true) ((w6.setCell ⟨G2, kk, none⟩ (.int .i64 at_)).setCell ⟨G3, kk, none⟩ (.bool true))) := by
          rw [← HG2.out, ← HG3.out]
          exact (On6.out.setLast HB.out kk at_).setSet HB.out kk true
        have HLK7 : Hid (Lk (setT nk at_ (t + 1) l) (las.set kk at_) (set.set kk true)) := by
          rw [← HNK.out]
          exact HLK.out.set kk hk5 at_ hat (t + 1)
        clear On6 HON HLK HNK
        generalize setT nk at_ (t + 1) l = l7 at HON7 HLK7
        generalize hls : las.set kk at_ = las7 at HON7 HLK7
        generalize hst : set.set kk true = set7 at HON7 HLK7
        generalize las.getD kk 0 = lx at s1
        generalize set.getD kk false = sx at s2
        clear hls hst las set
        by_cases hq : i < lt
        · have q1 : (i : Int) < (lt : Int) := by omega
          go_upto_region 18 with fail
          clear s1 s2 f1 f2 d1
          generalize (w6.setCell ⟨G2, kk, none⟩ (.int .i64 at_)).setCell ⟨G3, kk, none⟩ (.bool true) = w7 at HON7 ⊢
          obtain ⟨now, hnow⟩ : ∃ now, ts[i]? = some now := ⟨_, List.getElem?_eq_getElem (by rw [HLT.out]; exact hq)⟩
          obtain ⟨gb, ob, rfl, hcT⟩ := HT.out.cell hnow
          rw [HM.out] at hcT
          have HCT : Hid (∀ W, Below M w W → W.cell? ⟨gb, ob + i, none⟩ = some (.int .i64 now)) := hcT
          have ct := hcT w7 (HB1.out.trans (HON7.out.low.mono hMB))
          obtain ⟨nd, hnd⟩ : ∃ nd, (dueT now l7).length = nd := ⟨_, rfl⟩
          obtain ⟨ks, hks⟩ : ∃ ks, (dueT now l7).map (·.1) = ks := ⟨_, rfl⟩
          have HKS : Hid ((dueT now l7).map (·.1) = ks) := hks
          have HND : Hid (ks.length = nd) := by show ks.length = nd; rw [← hks, List.length_map, hnd]
          have hnd5 : (nd : Int) ≤ 1000 := by have := due_left now l7; have := HON7.out.win.at_.fine.len; omega
          have HDUE : Hid (Calls Try.prog 10 #[.pointer (some ⟨B, 0, none⟩), .int .i64 now] w7 fun e w' => ∃ a c, e = .returned (.slice a nd c) ∧ Hid (On B w1 (leftT now l7) (t + 1) las7 set7 w' ∧ DueAt B ks (a) w')) := by
            rw [← hks]
            exact on_due HSo.out HON7.out now (by omega) nd hnd
          have HFI : Hid (Fine l7 (t + 1)) := HON7.out.win.at_.fine
          clear hcT hnow hnd hks HON7
          go_upto_region 20 with (first | (go_at_call 10; refine HDUE.out.mono ?_; rintro e w8 ⟨da, dc, rfl, h8⟩; clear HDUE))
          clear ct
          go_loopw [13, 14] (fun c _ wx => ∃ n : Nat, c = .int .i64 (n : Int) ∧ n ≤ nd ∧ Hid (On B w1 (leftT now l7) (t + 1) las7 (goneB set7 (ks.take n)) wx ∧ DueAt B ks (da) wx)) (fun c _ _ => nd - (intOf c).toNat)
          case atStart => exact ⟨0, rfl, Nat.zero_le _, by rw [List.take_zero, gone_nil HLK7.out.set5]; exact h8.out.1, h8.out.2⟩
          case round =>
            clear h8
            obtain ⟨n, rfl, hn, hR2⟩ := hrel
            by_cases hnn : n < nd
            · have n1 : (n : Int) < (nd : Int) := by omega
              have n0 : (0 : Int) ≤ (n : Int) := by omega
              obtain ⟨k, hk⟩ : ∃ k, ks[n]? = some k := ⟨_, List.getElem?_eq_getElem (by rw [HND.out]; exact hnn)⟩
              have HK : Hid (ks[n]? = some k) := hk
              obtain ⟨gd, rfl, hgd, hcd⟩ := hR2.out.2 n k hk
              have HR2 : Hid (On B w1 (leftT now l7) (t + 1) las7 (seenB set7 (ks.take n) k 0) wr ∧ DueAt B ks (some (⟨gd, 0, none⟩ : Addr)) wr) := by
                rw [seen_zero]; exact hR2.out
              clear hR2 hk hcd
              go_upto_region 23 with fail
              go_loopw [14] (fun c wy => ∃ m : Nat, c = .int .i64 (m : Int) ∧ m ≤ 5 ∧ Hid (On B w1 (leftT now l7) (t + 1) las7 (seenB set7 (ks.take n) k m) wy ∧ DueAt B ks (some (⟨gd, 0, none⟩ : Addr)) wy)) (fun c _ => 5 - (intOf c).toNat)
              case atStart => exact ⟨0, rfl, by omega, HR2.out⟩
              case round =>
                clear HR2
                obtain ⟨m, rfl, hm, hR3⟩ := hrel
                by_cases hm5 : m < 5
                · have m1 : (m : Int) < 5 := by omega
                  have m0 : (0 : Int) ≤ (m : Int) := by omega
                  have x1 : wr.cell? ⟨G1, m, none⟩ = some (.string (strL (nm m))) := by rw [← HG1.out]; exact hR3.out.1.nm hm5
                  have x2 : wr.cell? ⟨gd, n, none⟩ = some (.string (strL k)) := by
                    obtain ⟨g, e, _, q⟩ := hR3.out.2 n k HK.out
                    cases e; exact q
                  have HM5 : Hid (m < 5) := hm5
                  go_upto_region 25 with fail
                  by_cases he : nm m = k
                  · have hnk : k ∉ ks.take n := by
                      have hnd := due_nodup HFI.out now
                      rw [HKS.out] at hnd
                      intro hin
                      obtain ⟨j, hj, ej⟩ := List.getElem_of_mem hin
                      have hkn := HK.out
                      rw [List.getElem_take] at ej
                      have hjn : j < n := by rw [List.length_take] at hj; omega
                      obtain ⟨hn2, en⟩ := List.getElem?_eq_some_iff.1 hkn
                      exact List.pairwise_iff_getElem.1 hnd j n (by omega) hn2 hjn (ej.trans en.symm)
                    have hkm : k ∈ (dueT now l7).map (·.1) := by rw [HKS.out]; exact List.mem_of_getElem? HK.out
                    obtain ⟨hset, hlas⟩ := HLK7.out.due HFI.out hkm hm5 he
                    have y1 : wr.cell? ⟨G3, m, none⟩ = some (.bool true) := by rw [← HG3.out, hR3.out.1.setAt (by rw [seenB_len]; exact hm5), seen_here hm5 he hnk hset]
                    have y2 : wr.cell? ⟨G2, m, none⟩ = some (.int .i64 (las7.getD m 0)) := by rw [← HG2.out]; exact hR3.out.1.lastAt (by rw [HLK7.out.las5]; exact hm5)
                    have y3 : wr.cell? ⟨gb, ob + i, none⟩ = some (.int .i64 now) := HCT.out wr (HB1.out.trans (hR3.out.1.low.mono hMB))
                    have y4 : wr.frozen? ⟨G3, m, none⟩ = false := by rw [← HG3.out]; exact hR3.out.1.sets.frozen m
                    have hcmp : ¬ now < las7.getD m 0 := by omega
                    have hcmp' : decide (now < las7.getD m 0) = false := decide_eq_false hcmp
                    have HOS : Hid (∀ q, On B w1 (leftT now l7) (t + 1) las7 (seenB set7 (ks.take n) k (m + 1)) ((wr.drewN q).setCell ⟨G3, m, none⟩ (.bool false)) ∧ DueAt B ks (some (⟨gd, 0, none⟩ : Addr)) ((wr.drewN q).setCell ⟨G3, m, none⟩ (.bool false))) := fun q => by
                      rw [← seen_set hm5 he, ← HG3.out]
                      refine ⟨(hR3.out.1.drewN q).setSet HB.out m false, fun j kj hj => ?_⟩
                      obtain ⟨g, e, hg, hc⟩ := hR3.out.2 j kj hj
                      refine ⟨g, e, hg, ?_⟩
                      rw [World.cell?_of_block (w := wr.drewN q) (heap_setCell_other (wr.drewN q) ⟨B + 3, m, none⟩ g _ (by show g ≠ B + 3; omega))]
                      have hb : Below wr.heap.size wr (wr.drewN q) := belowD _ _ _
                      rw [World.cell?_of_block (w := wr) (hb.block g (World.block_lt_of_cell? wr _ hc))]
                      exact hc
                    generalize las7.getD m 0 = lm at y2 hcmp hcmp'
                    rw [he] at x1
                    clear hR3 hnk hkm hset hlas
                    have heq : ((strL k).toList == (strL k).toList) = true := by simp
                    go_quiet (fail)
                    go_upto_region 26 with fail
                    go_quiet (fail)
                    go_wp2
                    exact ⟨⟨m + 1, by go_num, by omega, HOS.out _⟩, by simp [intOf]; omega⟩
                  · have hne : ¬ strL (nm m) = strL k := fun q => he (strL_inj q)
                    have hne' : ((strL (nm m)).toList == (strL k).toList) = false := by rw [ByteArray.toList_eq, ByteArray.toList_eq, strL_list, strL_list]; simpa using he
                    have HOS : Hid (∀ q, On B w1 (leftT now l7) (t + 1) las7 (seenB set7 (ks.take n) k (m + 1)) (wr.drewN q) ∧ DueAt B ks (some (⟨gd, 0, none⟩ : Addr)) (wr.drewN q)) := fun q => by
                      rw [seen_other he]
                      refine ⟨hR3.out.1.drewN q, fun j kj hj => ?_⟩
                      obtain ⟨g, e, hg, hc⟩ := hR3.out.2 j kj hj
                      have hb : Below wr.heap.size wr (wr.drewN q) := belowD _ _ _
                      exact ⟨g, e, hg, by rw [World.cell?_of_block (w := wr) (hb.block g (World.block_lt_of_cell? wr _ hc))]; exact hc⟩
                    clear hR3 he
                    generalize nm m = nmm at x1 hne hne'
                    go_quiet (fail)
                    go_wp2
                    exact ⟨⟨m + 1, by go_num, by omega, HOS.out _⟩, by simp [intOf]; omega⟩
                · obtain rfl : m = 5 := by omega
                  have HE : Hid (On B w1 (leftT now l7) (t + 1) las7 (goneB set7 (ks.take (n + 1))) wr ∧ DueAt B ks (some (⟨gd, 0, none⟩ : Addr)) wr) := by
                    have := hR3.out
                    rw [seen_five] at this
                    rw [List.take_add_one, HK.out]
                    exact this
                  clear hR3
                  go_wp2
                  go_roundw
                  case rel => exact ⟨n + 1, by go_num, by omega, HE.out⟩
                  case measure => simp [intOf]; omega
            · obtain rfl : n = nd := by omega
              have HE : Hid (On B w1 (leftT now l7) (t + 1) las7 (goneB set7 ks) wr) := by
                have := hR2.out.1
                rw [List.take_of_length_le (by rw [HND.out]; exact Nat.le_refl _)] at this
                exact this
              clear hR2
              go_upto_region 30 with fail
              go_loopw [15] (fun c wz => ∃ m : Nat, c = .int .i64 (m : Int) ∧ m ≤ 5 ∧ Hid (On B w1 (leftT now l7) (t + 1) las7 (goneB set7 ks) wz)) (fun c _ => 5 - (intOf c).toNat)
              case atStart => exact ⟨0, rfl, by omega, HE⟩
              case round =>
                clear HE
                obtain ⟨m, rfl, hm, hR3⟩ := hrel
                by_cases hm5 : m < 5
                · have m1 : (m : Int) < 5 := by omega
                  have m0 : (0 : Int) ≤ (m : Int) := by omega
                  have y1 : wr.cell? ⟨G3, m, none⟩ = some (.bool ((goneB set7 ks).getD m false)) := by rw [← HG3.out]; exact hR3.out.setAt (by rw [goneB_len]; exact hm5)
                  have y2 : wr.cell? ⟨G2, m, none⟩ = some (.int .i64 (las7.getD m 0)) := by rw [← HG2.out]; exact hR3.out.lastAt (by rw [HLK7.out.las5]; exact hm5)
                  have y3 : wr.cell? ⟨gb, ob + i, none⟩ = some (.int .i64 now) := HCT.out wr (HB1.out.trans (hR3.out.low.mono hMB))
                  have hno : (goneB set7 ks).getD m false = true → ¬ las7.getD m 0 ≤ now := fun q hle => by
                    rw [goneB_at _ _ hm5, Bool.and_eq_true] at q
                    have := HLK7.out.come hm5 q.1 hle
                    rw [HKS.out] at this
                    exact (of_decide_eq_true q.2) this
                  have HOS : Hid (∀ q, On B w1 (leftT now l7) (t + 1) las7 (goneB set7 ks) (wr.drewN q)) := fun q => hR3.out.drewN q
                  generalize las7.getD m 0 = lm at y2 hno
                  generalize (goneB set7 ks).getD m false = sb at y1 hno
                  clear hR3
                  go_upto_region 32 with fail
                  cases sb with
                  | true =>
                    have hcmp : ¬ lm ≤ now := hno rfl
                    have hcmp' : decide (lm ≤ now) = false := decide_eq_false hcmp
                    clear hno
                    go_quiet (fail)
                    go_wp2
                    exact ⟨⟨m + 1, by go_num, by omega, HOS.out _⟩, by simp [intOf]; omega⟩
                  | false =>
                    clear hno
                    go_quiet (fail)
                    go_wp2
                    exact ⟨⟨m + 1, by go_num, by omega, HOS.out _⟩, by simp [intOf]; omega⟩
                · have HE : Hid (Lk (leftT now l7) las7 (goneB set7 ks)) := by
                    have := HLK7.out.left HFI.out now
                    rw [HKS.out] at this
                    exact this
                  go_wp2
                  go_roundw
                  case rel => exact ⟨i + 1, by go_num, by omega, ⟨_, _, _, _, hR3.out, HE.out, by omega⟩⟩
                  case measure => simp [intOf]; omega
        · have q1 : ¬ (i : Int) < (lt : Int) := by omega
          have q2 : (lt : Int) ≤ (i : Int) := by omega
          go_wp2
          go_roundw
          case rel => exact ⟨i + 1, by go_num, by omega, ⟨_, _, _, _, HON7.out, HLK7.out, by omega⟩⟩
          case measure => simp [intOf]; omega
      · obtain ⟨kk, hkk⟩ : ∃ kk : Nat, kind.tmod 5 = (kk : Int) := ⟨(kind.tmod 5).toNat, by omega⟩
        have hk5 : kk < 5 := by omega
        go_upto_region 14 with fail
        clear hneg hkk hm1 hm2
        have i0 : (0 : Int) ≤ (kk : Int) := by omega
        have i5 : (kk : Int) < 5 := by omega
        have n1 : wr.cell? ⟨G1, kk, none⟩ = some (.string (strL (nm kk))) := by rw [← HG1.out]; exact HON.out.nm hk5
        have HSET : Hid (Calls Try.prog 13 #[.pointer (some ⟨B, 0, none⟩), .int .i64 at_, .slice (some ⟨wr.heap.size, 0, none⟩) 1 1] (wr.alloc (.cells #[.string (strL (nm kk))] 9)).drew fun e w' => e = .returned (.tuple #[]) ∧ Hid (On B w1 (setT (nm kk) at_ (t + 1) l) (t + 1) las set w')) := on_set HON.out.drew at_ kk hk5 (by omega)
        have c1' : (wr.alloc (.cells #[.string (strL (nm kk))] 9)).drew.cell? ⟨ga, oa + i * 3 + 1, none⟩ = some (.int .i64 at_) := (HCA.out _ (HB1.out.trans ((HON.out.alloc _).drew.low.mono hMB))).2
        have n1' : (wr.alloc (.cells #[.string (strL (nm kk))] 9)).drew.cell? ⟨G1, kk, none⟩ = some (.string (strL (nm kk))) := by rw [← HG1.out]; exact (HON.out.alloc _).drew.nm hk5
        obtain ⟨nk, hnk⟩ : ∃ nk, nm kk = nk := ⟨_, rfl⟩
        have HNK : Hid (nm kk = nk) := hnk
        rw [hnk] at n1 HSET c1' n1'
        clear hnk
        go_region_held3 (fun W => W.cell? ⟨ga, oa + i * 3 + 1, none⟩ = some (.int .i64 at_) ∧ W.cell? ⟨G1, kk, none⟩ = some (.string (strL nk)))
          (first
            | exact ⟨c1, n1⟩
            | exact ⟨c1', n1'⟩
            | exact ⟨d1, d2⟩)
          (first
            | (go_at_call 13; refine HSET.out.mono ?_; rintro e w6 ⟨rfl, On6⟩; have d1 := (HCA.out w6 (HB1.out.trans (On6.out.low.mono hMB))).2; have d2 : w6.cell? ⟨G1, kk, none⟩ = some (.string (strL nk)) := by rw [← HNK.out, ← HG1.out]; exact On6.out.nm hk5))
        rename_i hHeld
        clear hHeld c0 c1 n1 c1' n1' HSET d2
        have s1 : w6.cell? ⟨G2, kk, none⟩ = some (.int .i64 (las.getD kk 0)) := by rw [← HG2.out]; exact On6.out.lastAt (by rw [HLK.out.las5]; exact hk5)
        have s2 : w6.cell? ⟨G3, kk, none⟩ = some (.bool (set.getD kk false)) := by rw [← HG3.out]; exact On6.out.setAt (by rw [HLK.out.set5]; exact hk5)
        have f1 : w6.frozen? ⟨G2, kk, none⟩ = false := by rw [← HG2.out]; exact On6.out.last.frozen kk
        have f2 : w6.frozen? ⟨G3, kk, none⟩ = false := by rw [← HG3.out]; exact On6.out.sets.frozen kk
        have HON7 : Hid (On B w1 (setT nk at_ (t + 1) l) (t + 1) (las.set kk at_) (set.set kk true) ((w6.setCell ⟨G2, kk, none⟩ (.int .i64 at_)).setCell ⟨G3, kk, none⟩ (.bool true))) := by
          rw [← HG2.out, ← HG3.out]
          exact (On6.out.setLast HB.out kk at_).setSet HB.out kk true
        have HLK7 : Hid (Lk (setT nk at_ (t + 1) l) (las.set kk at_) (set.set kk true)) := by
          rw [← HNK.out]
          exact HLK.out.set kk hk5 at_ hat (t + 1)
        clear On6 HON HLK HNK
        generalize setT nk at_ (t + 1) l = l7 at HON7 HLK7
        generalize hls : las.set kk at_ = las7 at HON7 HLK7
        generalize hst : set.set kk true = set7 at HON7 HLK7
        generalize las.getD kk 0 = lx at s1
        generalize set.getD kk false = sx at s2
        clear hls hst las set
        by_cases hq : i < lt
        · have q1 : (i : Int) < (lt : Int) := by omega
          go_upto_region 18 with fail
          clear s1 s2 f1 f2 d1
          generalize (w6.setCell ⟨G2, kk, none⟩ (.int .i64 at_)).setCell ⟨G3, kk, none⟩ (.bool true) = w7 at HON7 ⊢
          obtain ⟨now, hnow⟩ : ∃ now, ts[i]? = some now := ⟨_, List.getElem?_eq_getElem (by rw [HLT.out]; exact hq)⟩
          obtain ⟨gb, ob, rfl, hcT⟩ := HT.out.cell hnow
          rw [HM.out] at hcT
          have HCT : Hid (∀ W, Below M w W → W.cell? ⟨gb, ob + i, none⟩ = some (.int .i64 now)) := hcT
          have ct := hcT w7 (HB1.out.trans (HON7.out.low.mono hMB))
          obtain ⟨nd, hnd⟩ : ∃ nd, (dueT now l7).length = nd := ⟨_, rfl⟩
          obtain ⟨ks, hks⟩ : ∃ ks, (dueT now l7).map (·.1) = ks := ⟨_, rfl⟩
          have HKS : Hid ((dueT now l7).map (·.1) = ks) := hks
          have HND : Hid (ks.length = nd) := by show ks.length = nd; rw [← hks, List.length_map, hnd]
          have hnd5 : (nd : Int) ≤ 1000 := by have := due_left now l7; have := HON7.out.win.at_.fine.len; omega
          have HDUE : Hid (Calls Try.prog 10 #[.pointer (some ⟨B, 0, none⟩), .int .i64 now] w7 fun e w' => ∃ a c, e = .returned (.slice a nd c) ∧ Hid (On B w1 (leftT now l7) (t + 1) las7 set7 w' ∧ DueAt B ks (a) w')) := by
            rw [← hks]
            exact on_due HSo.out HON7.out now (by omega) nd hnd
          have HFI : Hid (Fine l7 (t + 1)) := HON7.out.win.at_.fine
          clear hcT hnow hnd hks HON7
          go_upto_region 20 with (first | (go_at_call 10; refine HDUE.out.mono ?_; rintro e w8 ⟨da, dc, rfl, h8⟩; clear HDUE))
          clear ct
          go_loopw [13, 14] (fun c _ wx => ∃ n : Nat, c = .int .i64 (n : Int) ∧ n ≤ nd ∧ Hid (On B w1 (leftT now l7) (t + 1) las7 (goneB set7 (ks.take n)) wx ∧ DueAt B ks (da) wx)) (fun c _ _ => nd - (intOf c).toNat)
          case atStart => exact ⟨0, rfl, Nat.zero_le _, by rw [List.take_zero, gone_nil HLK7.out.set5]; exact h8.out.1, h8.out.2⟩
          case round =>
            clear h8
            obtain ⟨n, rfl, hn, hR2⟩ := hrel
            by_cases hnn : n < nd
            · have n1 : (n : Int) < (nd : Int) := by omega
              have n0 : (0 : Int) ≤ (n : Int) := by omega
              obtain ⟨k, hk⟩ : ∃ k, ks[n]? = some k := ⟨_, List.getElem?_eq_getElem (by rw [HND.out]; exact hnn)⟩
              have HK : Hid (ks[n]? = some k) := hk
              obtain ⟨gd, rfl, hgd, hcd⟩ := hR2.out.2 n k hk
              have HR2 : Hid (On B w1 (leftT now l7) (t + 1) las7 (seenB set7 (ks.take n) k 0) wr ∧ DueAt B ks (some (⟨gd, 0, none⟩ : Addr)) wr) := by
                rw [seen_zero]; exact hR2.out
              clear hR2 hk hcd
              go_upto_region 23 with fail
              go_loopw [14] (fun c wy => ∃ m : Nat, c = .int .i64 (m : Int) ∧ m ≤ 5 ∧ Hid (On B w1 (leftT now l7) (t + 1) las7 (seenB set7 (ks.take n) k m) wy ∧ DueAt B ks (some (⟨gd, 0, none⟩ : Addr)) wy)) (fun c _ => 5 - (intOf c).toNat)
              case atStart => exact ⟨0, rfl, by omega, HR2.out⟩
              case round =>
                clear HR2
                obtain ⟨m, rfl, hm, hR3⟩ := hrel
                by_cases hm5 : m < 5
                · have m1 : (m : Int) < 5 := by omega
                  have m0 : (0 : Int) ≤ (m : Int) := by omega
                  have x1 : wr.cell? ⟨G1, m, none⟩ = some (.string (strL (nm m))) := by rw [← HG1.out]; exact hR3.out.1.nm hm5
                  have x2 : wr.cell? ⟨gd, n, none⟩ = some (.string (strL k)) := by
                    obtain ⟨g, e, _, q⟩ := hR3.out.2 n k HK.out
                    cases e; exact q
                  have HM5 : Hid (m < 5) := hm5
                  go_upto_region 25 with fail
                  by_cases he : nm m = k
                  · have hnk : k ∉ ks.take n := by
                      have hnd := due_nodup HFI.out now
                      rw [HKS.out] at hnd
                      intro hin
                      obtain ⟨j, hj, ej⟩ := List.getElem_of_mem hin
                      have hkn := HK.out
                      rw [List.getElem_take] at ej
                      have hjn : j < n := by rw [List.length_take] at hj; omega
                      obtain ⟨hn2, en⟩ := List.getElem?_eq_some_iff.1 hkn
                      exact List.pairwise_iff_getElem.1 hnd j n (by omega) hn2 hjn (ej.trans en.symm)
                    have hkm : k ∈ (dueT now l7).map (·.1) := by rw [HKS.out]; exact List.mem_of_getElem? HK.out
                    obtain ⟨hset, hlas⟩ := HLK7.out.due HFI.out hkm hm5 he
                    have y1 : wr.cell? ⟨G3, m, none⟩ = some (.bool true) := by rw [← HG3.out, hR3.out.1.setAt (by rw [seenB_len]; exact hm5), seen_here hm5 he hnk hset]
                    have y2 : wr.cell? ⟨G2, m, none⟩ = some (.int .i64 (las7.getD m 0)) := by rw [← HG2.out]; exact hR3.out.1.lastAt (by rw [HLK7.out.las5]; exact hm5)
                    have y3 : wr.cell? ⟨gb, ob + i, none⟩ = some (.int .i64 now) := HCT.out wr (HB1.out.trans (hR3.out.1.low.mono hMB))
                    have y4 : wr.frozen? ⟨G3, m, none⟩ = false := by rw [← HG3.out]; exact hR3.out.1.sets.frozen m
                    have hcmp : ¬ now < las7.getD m 0 := by omega
                    have hcmp' : decide (now < las7.getD m 0) = false := decide_eq_false hcmp
                    have HOS : Hid (∀ q, On B w1 (leftT now l7) (t + 1) las7 (seenB set7 (ks.take n) k (m + 1)) ((wr.drewN q).setCell ⟨G3, m, none⟩ (.bool false)) ∧ DueAt B ks (some (⟨gd, 0, none⟩ : Addr)) ((wr.drewN q).setCell ⟨G3, m, none⟩ (.bool false))) := fun q => by
                      rw [← seen_set hm5 he, ← HG3.out]
                      refine ⟨(hR3.out.1.drewN q).setSet HB.out m false, fun j kj hj => ?_⟩
                      obtain ⟨g, e, hg, hc⟩ := hR3.out.2 j kj hj
                      refine ⟨g, e, hg, ?_⟩
                      rw [World.cell?_of_block (w := wr.drewN q) (heap_setCell_other (wr.drewN q) ⟨B + 3, m, none⟩ g _ (by show g ≠ B + 3; omega))]
                      have hb : Below wr.heap.size wr (wr.drewN q) := belowD _ _ _
                      rw [World.cell?_of_block (w := wr) (hb.block g (World.block_lt_of_cell? wr _ hc))]
                      exact hc
                    generalize las7.getD m 0 = lm at y2 hcmp hcmp'
                    rw [he] at x1
                    clear hR3 hnk hkm hset hlas
                    have heq : ((strL k).toList == (strL k).toList) = true := by simp
                    go_quiet (fail)
                    go_upto_region 26 with fail
                    go_quiet (fail)
                    go_wp2
                    exact ⟨⟨m + 1, by go_num, by omega, HOS.out _⟩, by simp [intOf]; omega⟩
                  · have hne : ¬ strL (nm m) = strL k := fun q => he (strL_inj q)
                    have hne' : ((strL (nm m)).toList == (strL k).toList) = false := by rw [ByteArray.toList_eq, ByteArray.toList_eq, strL_list, strL_list]; simpa using he
                    have HOS : Hid (∀ q, On B w1 (leftT now l7) (t + 1) las7 (seenB set7 (ks.take n) k (m + 1)) (wr.drewN q) ∧ DueAt B ks (some (⟨gd, 0, none⟩ : Addr)) (wr.drewN q)) := fun q => by
                      rw [seen_other he]
                      refine ⟨hR3.out.1.drewN q, fun j kj hj => ?_⟩
                      obtain ⟨g, e, hg, hc⟩ := hR3.out.2 j kj hj
                      have hb : Below wr.heap.size wr (wr.drewN q) := belowD _ _ _
                      exact ⟨g, e, hg, by rw [World.cell?_of_block (w := wr) (hb.block g (World.block_lt_of_cell? wr _ hc))]; exact hc⟩
                    clear hR3 he
                    generalize nm m = nmm at x1 hne hne'
                    go_quiet (fail)
                    go_wp2
                    exact ⟨⟨m + 1, by go_num, by omega, HOS.out _⟩, by simp [intOf]; omega⟩
                · obtain rfl : m = 5 := by omega
                  have HE : Hid (On B w1 (leftT now l7) (t + 1) las7 (goneB set7 (ks.take (n + 1))) wr ∧ DueAt B ks (some (⟨gd, 0, none⟩ : Addr)) wr) := by
                    have := hR3.out
                    rw [seen_five] at this
                    rw [List.take_add_one, HK.out]
                    exact this
                  clear hR3
                  go_wp2
                  go_roundw
                  case rel => exact ⟨n + 1, by go_num, by omega, HE.out⟩
                  case measure => simp [intOf]; omega
            · obtain rfl : n = nd := by omega
              have HE : Hid (On B w1 (leftT now l7) (t + 1) las7 (goneB set7 ks) wr) := by
                have := hR2.out.1
                rw [List.take_of_length_le (by rw [HND.out]; exact Nat.le_refl _)] at this
                exact this
              clear hR2
              go_upto_region 30 with fail
              go_loopw [15] (fun c wz => ∃ m : Nat, c = .int .i64 (m : Int) ∧ m ≤ 5 ∧ Hid (On B w1 (leftT now l7) (t + 1) las7 (goneB set7 ks) wz)) (fun c _ => 5 - (intOf c).toNat)
              case atStart => exact ⟨0, rfl, by omega, HE⟩
              case round =>
                clear HE
                obtain ⟨m, rfl, hm, hR3⟩ := hrel
                by_cases hm5 : m < 5
                · have m1 : (m : Int) < 5 := by omega
                  have m0 : (0 : Int) ≤ (m : Int) := by omega
                  have y1 : wr.cell? ⟨G3, m, none⟩ = some (.bool ((goneB set7 ks).getD m false)) := by rw [← HG3.out]; exact hR3.out.setAt (by rw [goneB_len]; exact hm5)
                  have y2 : wr.cell? ⟨G2, m, none⟩ = some (.int .i64 (las7.getD m 0)) := by rw [← HG2.out]; exact hR3.out.lastAt (by rw [HLK7.out.las5]; exact hm5)
                  have y3 : wr.cell? ⟨gb, ob + i, none⟩ = some (.int .i64 now) := HCT.out wr (HB1.out.trans (hR3.out.low.mono hMB))
                  have hno : (goneB set7 ks).getD m false = true → ¬ las7.getD m 0 ≤ now := fun q hle => by
                    rw [goneB_at _ _ hm5, Bool.and_eq_true] at q
                    have := HLK7.out.come hm5 q.1 hle
                    rw [HKS.out] at this
                    exact (of_decide_eq_true q.2) this
                  have HOS : Hid (∀ q, On B w1 (leftT now l7) (t + 1) las7 (goneB set7 ks) (wr.drewN q)) := fun q => hR3.out.drewN q
                  generalize las7.getD m 0 = lm at y2 hno
                  generalize (goneB set7 ks).getD m false = sb at y1 hno
                  clear hR3
                  go_upto_region 32 with fail
                  cases sb with
                  | true =>
                    have hcmp : ¬ lm ≤ now := hno rfl
                    have hcmp' : decide (lm ≤ now) = false := decide_eq_false hcmp
                    clear hno
                    go_quiet (fail)
                    go_wp2
                    exact ⟨⟨m + 1, by go_num, by omega, HOS.out _⟩, by simp [intOf]; omega⟩
                  | false =>
                    clear hno
                    go_quiet (fail)
                    go_wp2
                    exact ⟨⟨m + 1, by go_num, by omega, HOS.out _⟩, by simp [intOf]; omega⟩
                · have HE : Hid (Lk (leftT now l7) las7 (goneB set7 ks)) := by
                    have := HLK7.out.left HFI.out now
                    rw [HKS.out] at this
                    exact this
                  go_wp2
                  go_roundw
                  case rel => exact ⟨i + 1, by go_num, by omega, ⟨_, _, _, _, hR3.out, HE.out, by omega⟩⟩
                  case measure => simp [intOf]; omega
        · have q1 : ¬ (i : Int) < (lt : Int) := by omega
          have q2 : (lt : Int) ≤ (i : Int) := by omega
          go_wp2
          go_roundw
          case rel => exact ⟨i + 1, by go_num, by omega, ⟨_, _, _, _, HON7.out, HLK7.out, by omega⟩⟩
          case measure => simp [intOf]; omega
    · obtain ⟨l, t, las, set, hOn, hLk, hti⟩ := hR.out.ex
      have HON : Hid (On B w1 l t las set wr) := hOn
      have HLK : Hid (Lk l las set) := hLk
      clear hOn hLk
      by_cases hl : i < lo
      · have g1 : (i : Int) < (lo : Int) := by omega
        have g2 : ¬ (i : Int) < 60 := by omega
        have g2' : decide ((i : Int) < 60) = false := decide_eq_false g2
        have hsm : l.length < 1000 := by have := HON.out.win.at_.fine.len; omega
        obtain ⟨hd1, hd2⟩ := all_due HLK.out.max
        have HDUE : Hid (Calls Try.prog 10 #[.pointer (some ⟨B, 0, none⟩), .int .i64 9223372036854775807] wr fun e w' => ∃ a c, e = .returned (.slice a l.length c) ∧ Hid (On B w1 [] t las set w')) := (on_due HSo.out HON.out 9223372036854775807 (by omega) l.length hd1).mono fun e w' ⟨a, c, e1, e2⟩ => ⟨a, c, e1, by rw [← hd2]; exact e2.out.1⟩
        have HLEN : Hid (∀ W, Hid (On B w1 [] t las set W) → Calls Try.prog 17 #[.pointer (some ⟨B, 0, none⟩)] W fun e w' => e = .returned (.int .i64 0) ∧ w' = W) := fun W h => on_len h.out
        have HD2 : Hid (∀ W, Hid (On B w1 [] t las set W) → Calls Try.prog 10 #[.pointer (some ⟨B, 0, none⟩), .int .i64 9223372036854775807] W fun e w' => ∃ a c, e = .returned (.slice a 0 c) ∧ Hid (On B w1 [] t las set w')) := fun W h => (on_due HSo.out h.out 9223372036854775807 (by omega) 0 (by simp [dueT, upT])).mono fun e w' ⟨a, c, e1, e2⟩ => ⟨a, c, e1, by have := e2.out.1; exact (show On B w1 [] t las set w' by simpa [leftT] using this)⟩
        have HCN : Hid (countB set 5 = l.length) := HLK.out.count HON.out.win.at_.fine
        have HS5 : Hid (set.length = 5) := HLK.out.set5
        have HLOW : Hid (∀ W, On B w1 [] t las set W → Below M w W) := fun W h => HB1.out.trans (h.low.mono hMB)
        clear hd1 hd2 HON HLK hR
        generalize l.length = ln at *
        go_upto_region 37 with (first | (go_at_call 10; refine HDUE.out.mono ?_; rintro e w9 ⟨ra, rc, rfl, h9⟩; clear HDUE))
        go_loopw [17, 18] (fun c mc wz => ∃ m : Nat, mc = .int .i64 (m : Int) ∧ m ≤ 5 ∧ c = .int .i64 (countB set m : Int) ∧ wz = w9) (fun _ mc _ => 5 - (intOf mc).toNat)
        case atStart => exact ⟨0, rfl, by omega, rfl, rfl⟩
        case round =>
          obtain ⟨m, rfl, hm, rfl, rfl⟩ := hrel
          have hcm : (countB set m : Int) ≤ 5 := by
            have : countB set m ≤ m := by
              have := List.length_filter_le (fun m => set.getD m false) (List.range m)
              rw [List.length_range] at this
              exact this
            omega
          by_cases hm5 : m < 5
          · have m1 : (m : Int) < 5 := by omega
            have m0 : (0 : Int) ≤ (m : Int) := by omega
            have y1 : wr.cell? ⟨G3, m, none⟩ = some (.bool (set.getD m false)) := by rw [← HG3.out]; exact h9.out.setAt (by rw [HS5.out]; exact hm5)
            have hcs := countB_succ set m
            have HCS : Hid (countB set (m + 1) = countB set m + if set.getD m false = true then 1 else 0) := hcs
            clear hcs
            generalize set.getD m false = sb at y1 HCS
            obtain ⟨cm, hcmm⟩ : ∃ cm, countB set m = cm := ⟨_, rfl⟩
            rw [hcmm] at hcm HCS ⊢
            clear hcmm
            cases sb with
            | true =>
              go_wp2
              go_roundw
              case rel => exact ⟨m + 1, by go_num, by omega, by rw [HCS.out]; simp, trivial⟩
              case measure => simp [intOf]; omega
            | false =>
              go_wp2
              go_roundw
              case rel => exact ⟨m + 1, by go_num, by omega, by rw [HCS.out]; simp, trivial⟩
              case measure => simp [intOf]; omega
          · obtain rfl : m = 5 := by omega
            have hce : (countB set 5 : Int) = (ln : Int) := by rw [HCN.out]
            rw [hce]
            clear hce hcm
            go_wp2_with (first
              | (go_at_call 17; refine (HLEN.out _ h9).mono ?_; rintro e w10 ⟨rfl, e10⟩; rw [e10]; clear e10 HLEN)
              | (go_at_call 10; refine (HD2.out _ h9).mono ?_; rintro e w11 ⟨rb, rd, rfl, h11⟩; clear HD2))
            go_ret
            exact ⟨rfl, HLOW.out _ h11.out⟩
      · have g1 : ¬ (i : Int) < (lo : Int) := by omega
        have g1' : decide ((i : Int) < (lo : Int)) = false := decide_eq_false g1
        have hsm : l.length < 1000 := by have := HON.out.win.at_.fine.len; omega
        obtain ⟨hd1, hd2⟩ := all_due HLK.out.max
        have HDUE : Hid (Calls Try.prog 10 #[.pointer (some ⟨B, 0, none⟩), .int .i64 9223372036854775807] wr fun e w' => ∃ a c, e = .returned (.slice a l.length c) ∧ Hid (On B w1 [] t las set w')) := (on_due HSo.out HON.out 9223372036854775807 (by omega) l.length hd1).mono fun e w' ⟨a, c, e1, e2⟩ => ⟨a, c, e1, by rw [← hd2]; exact e2.out.1⟩
        have HLEN : Hid (∀ W, Hid (On B w1 [] t las set W) → Calls Try.prog 17 #[.pointer (some ⟨B, 0, none⟩)] W fun e w' => e = .returned (.int .i64 0) ∧ w' = W) := fun W h => on_len h.out
        have HD2 : Hid (∀ W, Hid (On B w1 [] t las set W) → Calls Try.prog 10 #[.pointer (some ⟨B, 0, none⟩), .int .i64 9223372036854775807] W fun e w' => ∃ a c, e = .returned (.slice a 0 c) ∧ Hid (On B w1 [] t las set w')) := fun W h => (on_due HSo.out h.out 9223372036854775807 (by omega) 0 (by simp [dueT, upT])).mono fun e w' ⟨a, c, e1, e2⟩ => ⟨a, c, e1, by have := e2.out.1; exact (show On B w1 [] t las set w' by simpa [leftT] using this)⟩
        have HCN : Hid (countB set 5 = l.length) := HLK.out.count HON.out.win.at_.fine
        have HS5 : Hid (set.length = 5) := HLK.out.set5
        have HLOW : Hid (∀ W, On B w1 [] t las set W → Below M w W) := fun W h => HB1.out.trans (h.low.mono hMB)
        clear hd1 hd2 HON HLK hR
        generalize l.length = ln at *
        go_upto_region 37 with (first | (go_at_call 10; refine HDUE.out.mono ?_; rintro e w9 ⟨ra, rc, rfl, h9⟩; clear HDUE))
        go_loopw [17, 18] (fun c mc wz => ∃ m : Nat, mc = .int .i64 (m : Int) ∧ m ≤ 5 ∧ c = .int .i64 (countB set m : Int) ∧ wz = w9) (fun _ mc _ => 5 - (intOf mc).toNat)
        case atStart => exact ⟨0, rfl, by omega, rfl, rfl⟩
        case round =>
          obtain ⟨m, rfl, hm, rfl, rfl⟩ := hrel
          have hcm : (countB set m : Int) ≤ 5 := by
            have : countB set m ≤ m := by
              have := List.length_filter_le (fun m => set.getD m false) (List.range m)
              rw [List.length_range] at this
              exact this
            omega
          by_cases hm5 : m < 5
          · have m1 : (m : Int) < 5 := by omega
            have m0 : (0 : Int) ≤ (m : Int) := by omega
            have y1 : wr.cell? ⟨G3, m, none⟩ = some (.bool (set.getD m false)) := by rw [← HG3.out]; exact h9.out.setAt (by rw [HS5.out]; exact hm5)
            have hcs := countB_succ set m
            have HCS : Hid (countB set (m + 1) = countB set m + if set.getD m false = true then 1 else 0) := hcs
            clear hcs
            generalize set.getD m false = sb at y1 HCS
            obtain ⟨cm, hcmm⟩ : ∃ cm, countB set m = cm := ⟨_, rfl⟩
            rw [hcmm] at hcm HCS ⊢
            clear hcmm
            cases sb with
            | true =>
              go_wp2
              go_roundw
              case rel => exact ⟨m + 1, by go_num, by omega, by rw [HCS.out]; simp, trivial⟩
              case measure => simp [intOf]; omega
            | false =>
              go_wp2
              go_roundw
              case rel => exact ⟨m + 1, by go_num, by omega, by rw [HCS.out]; simp, trivial⟩
              case measure => simp [intOf]; omega
          · obtain rfl : m = 5 := by omega
            have hce : (countB set 5 : Int) = (ln : Int) := by rw [HCN.out]
            rw [hce]
            clear hce hcm
            go_wp2_with (first
              | (go_at_call 17; refine (HLEN.out _ h9).mono ?_; rintro e w10 ⟨rfl, e10⟩; rw [e10]; clear e10 HLEN)
              | (go_at_call 10; refine (HD2.out _ h9).mono ?_; rintro e w11 ⟨rb, rd, rfl, h11⟩; clear HD2))
            go_ret
            exact ⟨rfl, HLOW.out _ h11.out⟩
end Go.Proofs.Ytklkonmdllgeeaa
