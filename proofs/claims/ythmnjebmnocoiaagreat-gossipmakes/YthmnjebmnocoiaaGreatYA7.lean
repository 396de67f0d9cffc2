/- GsMembers, GsClaimant, GsOwners. -/
import Derived.Test.YthmnjebmnocoiaaGreatYA6
/- What package gossip's Members and Claimant tell. -/
namespace Go.Proofs.YthmnjebmnocoiaaGreat
open Go.RowKit
attribute [local go_sem ↓] rule28

def inS (ss : List Int) (m : Mb) : Bool := decide (ss.length = 0) || ss.contains m.2.1
def selL (ss : List Int) (l : List Mb) : List Int := (l.filter (inS ss)).map (·.1)
def membersL (r : Rg) (ss : List Int) : List Int := selL ss (normL r).1
theorem selL_step (ss : List Int) (l : List Mb) (i : Nat) (m : Mb) (h : l[i]? = some m) : selL ss (l.take (i + 1)) = if inS ss m then selL ss (l.take i) ++ [m.1] else selL ss (l.take i) := by
  unfold selL
  rw [List.take_add_one, h, List.filter_append, List.map_append]
  by_cases g : inS ss m = true
  · simp [g]
  · simp [g]
theorem selL_len (ss : List Int) (l : List Mb) : (selL ss l).length ≤ l.length := by
  unfold selL
  rw [List.length_map]; exact List.length_filter_le _ _
theorem members_len (r : Rg) (ss : List Int) : (membersL r ss).length ≤ 7 := Nat.le_trans (selL_len _ _) (risL_len _)
theorem row_below {w w' : World} {base : Nat} {e : TypeId} {size : Nat} {v : Value} {n : Nat} {xs : List Value} (h : w.ownsRow base e size v n xs) (hb : Below w.heap.size w w') : w'.ownsRow base e size v n xs := by
  refine ⟨h.1, ?_⟩
  rcases h.2 with h | ⟨g, cap, cur, e1, hg1, hg, r⟩
  · exact .inl h
  · exact .inr ⟨g, cap, cur, e1, hg1, (hb.block g (Array.getElem?_eq_some_iff.1 hg).1).trans hg, r⟩
theorem row_baseG {w : World} {base b : Nat} {e : TypeId} {size : Nat} {v : Value} {n : Nat} {xs : List Value} (h : w.ownsRow base e size v n xs) (hb : b ≤ base) : w.ownsRow b e size v n xs := by
  refine ⟨h.1, ?_⟩
  rcases h.2 with h | ⟨g, cap, cur, e1, hg1, r⟩
  · exact .inl h
  · exact .inr ⟨g, cap, cur, e1, Nat.le_trans hb hg1, r⟩
theorem run_field28 (W : World) (x : Value) (r : Rg) : (Instr.field 28 (.agg (ringC x r).toArray) 0).run Tryz.prog W = .ok x W := by
  simp [Instr.field, Sem.run_bind, run_underlying Tryz.underlying28, part, ringC, asAgg]
set_option maxRecDepth 100000 in
set_option maxHeartbeats 4000000 in
theorem members_any (v : Value) (r : Rg) (B : Nat) (sv : Value) (ss : List Int) (w : World) (hB : B ≤ w.heap.size) (hsv : Ints B w sv ss) (hsl : ss.length ≤ 9223372036854775807) (h : RingAt w.heap.size w v r) :
    Calls Tryz.prog 20 #[ringV v r, sv] w fun e w' => ∃ u, e = .returned u ∧ w'.ownsRow w.heap.size 3 1 u (membersL r ss).length (intV (membersL r ss)) ∧ Below w.heap.size w w' := by
  obtain ⟨N, hN⟩ : ∃ N, w.heap.size = N := ⟨_, rfl⟩
  have HR : Hid (RingAt N w v r) := hN ▸ h
  have hl17 := ringC_len h
  rw [hN] at hB ⊢
  have HNorm : Hid (∀ W, RingAt W.heap.size W v r → Calls Tryz.prog 8 #[.agg (ringC v r).toArray] W fun e w' => ∃ ua uc, e = .returned (.agg (ringC (.slice ua (normL r).1.length uc) (normL r)).toArray) ∧ RingAt w'.heap.size w' (.slice ua (normL r).1.length uc) (normL r) ∧ Below W.heap.size W w') := fun W hr => (norm_any v r W hr).mono fun e w' ⟨u, h1, h2, h3, h4⟩ => by
    obtain ⟨ua, uc, rfl⟩ := h2.mem.len
    exact ⟨ua, uc, h1, h2, h4⟩
  have HE : Hid (membersL r ss = selL ss (normL r).1) := rfl
  have h7 : Hid ((normL r).1.length ≤ 7) := risL_len _
  generalize normL r = nr at *
  show Calls Tryz.prog 20 #[.agg (ringC v r).toArray, sv] w _
  generalize ringC v r = cs at *
  obtain ⟨na, nc, rfl⟩ := hsv.len
  have HI : Hid (Ints B w (.slice na ss.length nc) ss) := hsv
  obtain ⟨n, hln⟩ : ∃ n, ss.length = n := ⟨_, rfl⟩
  have HL : Hid (ss.length = n) := hln
  have HSL : Hid (ss.length ≤ 9223372036854775807) := hsl
  rw [hln] at hsl ⊢
  obtain ⟨i3, hi3, hz3, hs3, hb3⟩ := inf3
  clear h hsv
  have hfld : Hid (∀ (W : World) (x : Value), (Instr.field 28 (.agg (ringC x nr).toArray) 0).run Tryz.prog W = .ok x W) := fun W x => run_field28 W x nr
  go_enter Tryz.func20, Tryz.ntmps20
  go_wp2_with (first
    | (refine wpList_box_new 2 rfl rfl 28 _ rfl N hN _ rfl ?_; intro w1 h1; have r1 := h1.holds.row28 hl17; have hz1 := h1.size; have hz1' : N ≤ w1.heap.size := (by omega); have HR1 := (HR.out.below h1.below).mono hz1')
    | (go_at_call 8; refine (HNorm.out _ HR1).mono ?_; rintro e w2 ⟨ua, uc, rfl, R2, b2⟩; have hfl := hfld.out w2 (.slice ua nr.1.length uc); generalize (ringC (.slice ua nr.1.length uc) nr).toArray = qs at hfl))
  have F3 : Hid (Tryz.prog.info? 3 = some i3) := hi3
  obtain ⟨M2, hM2⟩ : ∃ M2, w2.heap.size = M2 := ⟨_, rfl⟩
  have HB2 : Hid (Below N w w2) := h1.below.trans (b2.mono hz1')
  have hNM : N + 1 ≤ M2 := by have := b2.size; omega
  have HM2 : Hid (Mems M2 w2 (.slice ua nr.1.length uc) nr.1) := hM2 ▸ R2.mem
  have HI2 : Hid (Ints B w2 (.slice na ss.length nc) ss) := HI.out.below (HB2.out.mono hB)
  obtain ⟨ln, hlnr⟩ : ∃ ln, nr.1.length = ln := ⟨_, rfl⟩
  have HLN : Hid (nr.1.length = ln) := hlnr
  have h7' : ln ≤ 7 := hlnr ▸ h7.out
  rw [hlnr]
  clear h1 b2 R2 hfl r1 HR1 hz1 hz1' hlnr hi3 HNorm hfld
  go_loopw [5, 12] (fun s c wr => ∃ i : Nat, i ≤ ln ∧ c = .int .i64 (i : Int) ∧ wr.ownsRow M2 3 1 s (selL ss (nr.1.take i)).length (intV (selL ss (nr.1.take i))) ∧ Below M2 w2 wr) (fun _ c _ => ln - (intOf c).toNat)
  case atStart => exact ⟨0, by omega, rfl, World.ownsRow_nil _ _ _ _, Below.refl _ _⟩
  case round =>
  obtain ⟨i, hi, rfl, hown, hB3⟩ := hrel
  by_cases hlt : i < ln
  · obtain ⟨⟨m1, m2, m3⟩, hm⟩ : ∃ m, nr.1[i]? = some m := ⟨_, List.getElem?_eq_getElem (by rw [HLN.out]; exact hlt)⟩
    have hst0 := selL_step ss nr.1 i _ hm
    have hlen : (selL ss (nr.1.take i)).length ≤ i := Nat.le_trans (selL_len _ _) (by simp; omega)
    generalize selL ss (nr.1.take i) = L at hown hlen hst0
    obtain ⟨at_, ct, rfl⟩ := row_slice hown
    have i0 : (0 : Int) ≤ (i : Int) := by omega
    have i1 : (i : Int) < (ln : Int) := by omega
    have HOW : Hid (wr.ownsRow M2 3 1 (.slice at_ L.length ct) L.length (intV L)) := hown
    have HB : Hid (Below M2 w2 wr) := hB3
    have hsz : M2 ≤ wr.heap.size := by have := hB3.size; omega
    obtain ⟨g, o, rfl, hgB, c0, c1, c2⟩ := (HM2.out.below hB3).cell i _ hm
    obtain ⟨M, hM⟩ : ∃ M, wr.heap.size = M := ⟨_, rfl⟩
    rw [hM] at hsz
    have HC : Hid (∀ W, Below M wr W → Calls Tryz.prog 46 #[.slice na n nc, .int .i64 m2] W fun e w' => e = .returned (.bool (ss.contains m2)) ∧ w' = W) := fun W hW => by
      have := contains_any B W _ ss m2 ((HI2.out.below (HB.out.mono (by omega))).below (hW.mono (by omega))) HSL.out
      rw [HL.out] at this
      exact this
    clear hown hB3 hm
    by_cases hn0 : n = 0
    · have hin : inS ss (m1, m2, m3) = true := by unfold inS; rw [HL.out, hn0]; rfl
      have hst : Hid (selL ss (nr.1.take (i + 1)) = L ++ [m1]) := hst0.trans (if_pos hin)
      subst hn0
      clear hst0
      go_wp2_with (first
        | (refine wpList_alloc_new 7 rfl rfl 53 rfl M hM _ zero35 ?_; intro w3 h3)
        | (refine wpList_store_all rfl 53 (.tmp 7) (.tmp 15) rfl M rfl (mbV (m1, m2, m3)) rfl 53 _ h3.holds siz35 rfl (mbV_one _) ?_; intro w4 h4; have b4 : Below M wr w4 := h3.below.trans (h4.below (Nat.le_refl _)); have p0 := h4.holds.at 0 _ rfl; have p1 := h4.holds.at 1 _ rfl)
        | (at_builtin; refine wpList_append_src rfl (.tmp 25) (.tmp 28) 30 rfl M2 3 i3 _ 1 8 und24 F3.out hz3 hs3 hb3 (by rfl) (by omega) _ _ _ ((row_below HOW.out (hM ▸ b4)).alloc _) rfl [.int .i64 m1] _ 1 1 rfl (by rfl) (fun _ => ⟨_, rfl, fun j u hu => World.news_of_block (heap_alloc_new w4 _) j u hu⟩) (fun u hu => by simp at hu; subst hu; rfl) (by unfold maxLen; omega) (by omega) (by have := b4.size; simp; omega) ?_; intro v6 w6 own6 gr6 _))
      have e3 : intV L ++ [.int .i64 m1] = intV (selL ss (nr.1.take (i + 1))) := by rw [hst.out]; simp [intV]
      have l3 : L.length + 1 = (selL ss (nr.1.take (i + 1))).length := by rw [hst.out]; simp
      rw [e3, l3] at own6
      exact ⟨⟨i + 1, by omega, by go_num, own6, ((HB.out.trans (b4.mono hsz)).alloc (by have := b4.size; omega) _).grown gr6 (by have := b4.size; simp; omega) (fun j e => own3_base HOW.out j e)⟩, by simp [intOf]; omega⟩
    · have hnb : ((n : Int) == 0) = false := by simpa using hn0
      have hn1 : ¬ (n : Int) = 0 := by omega
      by_cases hc : ss.contains m2 = true
      · have hin : inS ss (m1, m2, m3) = true := by unfold inS; rw [hc]; simp
        have hst : Hid (selL ss (nr.1.take (i + 1)) = L ++ [m1]) := hst0.trans (if_pos hin)
        rw [hc] at HC
        clear hst0
        go_wp2_with (first
        | (refine wpList_alloc_new 7 rfl rfl 53 rfl M hM _ zero35 ?_; intro w3 h3)
        | (refine wpList_store_all rfl 53 (.tmp 7) (.tmp 15) rfl M rfl (mbV (m1, m2, m3)) rfl 53 _ h3.holds siz35 rfl (mbV_one _) ?_; intro w4 h4; have b4 : Below M wr w4 := h3.below.trans (h4.below (Nat.le_refl _)); have p0 := h4.holds.at 0 _ rfl; have p1 := h4.holds.at 1 _ rfl)
        | (go_at_call 46; refine (HC.out _ b4).mono ?_; rintro e w5 ⟨rfl, rfl⟩)
        | (at_builtin; refine wpList_append_src rfl (.tmp 25) (.tmp 28) 30 rfl M2 3 i3 _ 1 8 und24 F3.out hz3 hs3 hb3 (by rfl) (by omega) _ _ _ ((row_below HOW.out (hM ▸ b4)).alloc _) rfl [.int .i64 m1] _ 1 1 rfl (by rfl) (fun _ => ⟨_, rfl, fun j u hu => World.news_of_block (heap_alloc_new w5 _) j u hu⟩) (fun u hu => by simp at hu; subst hu; rfl) (by unfold maxLen; omega) (by omega) (by have := b4.size; simp; omega) ?_; intro v6 w6 own6 gr6 _))
        have e3 : intV L ++ [.int .i64 m1] = intV (selL ss (nr.1.take (i + 1))) := by rw [hst.out]; simp [intV]
        have l3 : L.length + 1 = (selL ss (nr.1.take (i + 1))).length := by rw [hst.out]; simp
        rw [e3, l3] at own6
        exact ⟨⟨i + 1, by omega, by go_num, own6, ((HB.out.trans (b4.mono hsz)).alloc (by have := b4.size; omega) _).grown gr6 (by have := b4.size; simp; omega) (fun j e => own3_base HOW.out j e)⟩, by simp [intOf]; omega⟩
      · have hc' : ss.contains m2 = false := by simpa using hc
        have hin : ¬ inS ss (m1, m2, m3) = true := by unfold inS; rw [hc', HL.out]; simpa using hn0
        have hst : Hid (selL ss (nr.1.take (i + 1)) = L) := hst0.trans (if_neg hin)
        rw [hc'] at HC
        clear hst0
        go_wp2_with (first
        | (refine wpList_alloc_new 7 rfl rfl 53 rfl M hM _ zero35 ?_; intro w3 h3)
        | (refine wpList_store_all rfl 53 (.tmp 7) (.tmp 15) rfl M rfl (mbV (m1, m2, m3)) rfl 53 _ h3.holds siz35 rfl (mbV_one _) ?_; intro w4 h4; have b4 : Below M wr w4 := h3.below.trans (h4.below (Nat.le_refl _)); have p0 := h4.holds.at 0 _ rfl; have p1 := h4.holds.at 1 _ rfl)
        | (go_at_call 46; refine (HC.out _ b4).mono ?_; rintro e w5 ⟨rfl, rfl⟩))
        exact ⟨⟨i + 1, by omega, by go_num, by rw [hst.out]; exact row_below HOW.out (hM ▸ b4), HB.out.trans (b4.mono hsz)⟩, by simp [intOf]; omega⟩
  · have e8 : nr.1.take i = nr.1 := List.take_of_length_le (by rw [HLN.out]; omega)
    rw [e8] at hown
    have i1 : ¬ (i : Int) < (ln : Int) := by omega
    go_wp2
    go_ret
    refine ⟨_, rfl, ?_, HB2.out.trans (hB3.mono (by omega))⟩
    rw [HE.out]
    exact row_baseG hown (by omega)
end Go.Proofs.YthmnjebmnocoiaaGreat

/- What package gossip's Claimant tells. -/
namespace Go.Proofs.YthmnjebmnocoiaaGreat
open Go.RowKit
attribute [local go_sem ↓] rule28

def claimantL (r : Rg) : Int := (membersL r [1]).headD 0
set_option maxRecDepth 100000 in
set_option maxHeartbeats 4000000 in
theorem claimant_any (v : Value) (r : Rg) (w : World) (h : RingAt w.heap.size w v r) :
    Calls Tryz.prog 22 #[ringV v r] w fun e w' => e = .returned (.int .i64 (claimantL r)) ∧ Below w.heap.size w w' := by
  obtain ⟨N, hN⟩ : ∃ N, w.heap.size = N := ⟨_, rfl⟩
  have HR : Hid (RingAt N w v r) := hN ▸ h
  have hl17 := ringC_len h
  rw [hN]
  have HM : Hid (∀ W g, RingAt W.heap.size W v r → Holds W g [.int .i64 1] 3 → Calls Tryz.prog 20 #[.agg (ringC v r).toArray, .slice (some ⟨g, 0, none⟩) 1 1] W fun e w' => ∃ a c, e = .returned (.slice a (membersL r [1]).length c) ∧ Ints w'.heap.size w' (.slice a (membersL r [1]).length c) (membersL r [1]) ∧ Below W.heap.size W w') := fun W g hr hg => (members_any v r W.heap.size _ [1] W (Nat.le_refl _) (ints_one W g 1 hg) (by simp) hr).mono fun e w' ⟨u, h1, h2, h3⟩ => by
    have hi := ints_of_row h2
    obtain ⟨a, c, rfl⟩ := hi.len
    exact ⟨a, c, h1, hi, h3⟩
  unfold claimantL
  have h7 := members_len r [1]
  show Calls Tryz.prog 22 #[.agg (ringC v r).toArray] w _
  generalize ringC v r = cs at *
  generalize membersL r [1] = L at *
  clear h
  cases L with
  | nil =>
    go_enter Tryz.func22, Tryz.ntmps22
    go_wp2_with (first
      | (refine wpList_box_new 1 rfl rfl 28 _ rfl N hN _ rfl ?_; intro w1 h1; have r1 := h1.holds.row28 hl17; have hz1 := h1.size; have HA : Holds (w1.alloc (.cells #[.int .i64 1] 3)) (N + 1) [.int .i64 1] 3 := hz1 ▸ holds_new w1 [.int .i64 1] 3; have HRA : RingAt (w1.alloc (.cells #[.int .i64 1] 3)).heap.size (w1.alloc (.cells #[.int .i64 1] 3)) v r := ((HR.out.below h1.below).below ((Below.refl _ w1).alloc (by omega) _)).mono (by simp; omega))
      | (go_at_call 20; refine (HM.out _ _ HRA HA).mono ?_; rintro e w2 ⟨ua, uc, rfl, I2, b2⟩))
    go_ret
    exact ⟨rfl, (h1.below.alloc (by omega) _).trans (b2.mono (by simp; omega))⟩
  | cons x L =>
    obtain ⟨ln, hln⟩ : ∃ ln, (x :: L).length = ln + 1 := ⟨L.length, rfl⟩
    have HLN : Hid ((x :: L).length = ln + 1) := hln
    rw [hln] at HM h7
    have h7' : (ln : Int) + 1 ≤ 7 := by omega
    have hne : ¬ (ln : Int) + 1 = 0 := by omega
    have hneb : ((ln : Int) + 1 == 0) = false := by simpa using hne
    have hpos : (0 : Int) < (ln : Int) + 1 := by omega
    clear hln
    go_enter Tryz.func22, Tryz.ntmps22
    go_wp2_with (first
      | (refine wpList_box_new 1 rfl rfl 28 _ rfl N hN _ rfl ?_; intro w1 h1; have r1 := h1.holds.row28 hl17; have hz1 := h1.size; have HA : Holds (w1.alloc (.cells #[.int .i64 1] 3)) (N + 1) [.int .i64 1] 3 := hz1 ▸ holds_new w1 [.int .i64 1] 3; have HRA : RingAt (w1.alloc (.cells #[.int .i64 1] 3)).heap.size (w1.alloc (.cells #[.int .i64 1] 3)) v r := ((HR.out.below h1.below).below ((Below.refl _ w1).alloc (by omega) _)).mono (by simp; omega))
      | (go_at_call 20; refine (HM.out _ _ HRA HA).mono ?_; rintro e w2 ⟨ua, uc, rfl, I2, b2⟩; obtain ⟨g, o, rfl, cx⟩ := I2.cell 0 x rfl; rw [Nat.add_zero] at cx))
    go_ret
    exact ⟨rfl, (h1.below.alloc (by omega) _).trans (b2.mono (by simp; omega))⟩
end Go.Proofs.YthmnjebmnocoiaaGreat

/- What package gossip's Owners tells. -/
namespace Go.Proofs.YthmnjebmnocoiaaGreat
open Go.RowKit
attribute [local go_sem ↓] rule28

def ownersL (r : Rg) : List Int := (normL r).2.map (·.1)
def partI (os : List Ow) (k : Nat) : List Int := (List.range 8).map fun j => if j < k then (os.getD j noO).1 else 0
theorem partI_len (os : List Ow) (k : Nat) : (partI os k).length = 8 := by simp [partI]
theorem partI_zero (os : List Ow) : partI os 0 = List.replicate 8 0 := by simp [partI, List.map_const']
theorem partI_all (os : List Ow) (h : os.length = 8) : partI os 8 = os.map (·.1) := by
  apply List.ext_getElem
  · simp [partI, h]
  · intro i h1 h2
    have hi : i < 8 := by simpa [partI] using h1
    simp [partI, hi, h]
theorem partI_succ (os : List Ow) (k : Nat) : partI os (k + 1) = (partI os k).set k (os.getD k noO).1 := by
  apply List.ext_getElem
  · simp [partI]
  · intro i h1 h2
    rw [List.getElem_set]
    simp only [partI, List.getElem_map, List.getElem_range]
    by_cases e : k = i
    · subst e; rw [if_pos rfl, if_pos (by omega)]
    · rw [if_neg e]
      by_cases g : i < k
      · rw [if_pos g, if_pos (by omega)]
      · rw [if_neg g, if_neg (by omega)]
theorem run_field28o (W : World) (x : Value) (r : Rg) (h : r.2.length = 8) : (Instr.field 28 (.agg (ringC x r).toArray) 1).run Tryz.prog W = .ok (.agg (ownV r.2).toArray) W := by
  have hz : (ownV r.2).length = 16 := by rw [ownV_len, h]
  simp [Instr.field, Sem.run_bind, run_underlying Tryz.underlying28, part, ringC, asAgg, run_sizeOf siz26, ← hz]
set_option maxRecDepth 100000 in
set_option maxHeartbeats 4000000 in
theorem owners_any (v : Value) (r : Rg) (w : World) (h : RingAt w.heap.size w v r) :
    Calls Tryz.prog 24 #[ringV v r] w fun e w' => e = .returned (.agg (intV (ownersL r)).toArray) ∧ Below w.heap.size w w' := by
  obtain ⟨N, hN⟩ : ∃ N, w.heap.size = N := ⟨_, rfl⟩
  have HR : Hid (RingAt N w v r) := hN ▸ h
  have hl17 := ringC_len h
  rw [hN]
  have HNorm : Hid (∀ W, RingAt W.heap.size W v r → Calls Tryz.prog 8 #[.agg (ringC v r).toArray] W fun e w' => ∃ qs, e = .returned (.agg qs) ∧ Hid (∀ W, (Instr.field 28 (.agg qs) 1).run Tryz.prog W = .ok (.agg (ownV (normL r).2).toArray) W) ∧ Below W.heap.size W w') := fun W hr => (norm_any v r W hr).mono fun e w' ⟨u, h1, h2, h3, h4⟩ => ⟨_, h1, fun W => run_field28o W u (normL r) h2.own, h4⟩
  have hol : (normL r).2.length = 8 := mergeO_len _
  unfold ownersL
  generalize normL r = nr at *
  have hidx : Hid (∀ k : Nat, k < 8 → ∀ W, (Instr.index 26 (.agg (ownV nr.2).toArray) (.int .i64 (k : Int))).run Tryz.prog W = .ok (.agg (owV (nr.2.getD k noO)).toArray) W) := fun k hk W => run_index26 nr.2 hol k hk W
  have HALL := partI_all nr.2 hol
  have HALLh : Hid (partI nr.2 8 = nr.2.map (·.1)) := HALL
  show Calls Tryz.prog 24 #[.agg (ringC v r).toArray] w _
  generalize ringC v r = cs at *
  generalize ownV nr.2 = on at *
  clear h HALL
  go_enter Tryz.func24, Tryz.ntmps24
  go_wp2_with (first
    | (refine wpList_box_new 1 rfl rfl 28 _ rfl N hN _ rfl ?_; intro w1 h1)
    | (refine wpList_alloc_new 2 rfl rfl 43 rfl (N + 1) h1.size _ zero23 ?_; intro w2 h2)
    | (refine wpList_alloc_new 3 rfl rfl 43 rfl (N + 2) h2.size _ zero23 ?_; intro w3 h3; have H3 := (h1.holds.below h2.below (by omega)).below h3.below (by omega); have r3 := H3.row28 hl17; have hz3 := h3.size; have b3 : Below N w w3 := (h1.below.trans (h2.below.mono (by omega))).trans (h3.below.mono (by omega)); have HR3 : RingAt w3.heap.size w3 v r := (HR.out.below b3).mono (by omega))
    | (go_at_call 8; refine (HNorm.out _ HR3).mono ?_; rintro e w4 ⟨qs, rfl, hq, b4⟩; have hq4 := hq.out w4))
  have HB4 : Hid (Below N w w4) := b3.trans (b4.mono (by omega))
  have HX4 : Hid (Holds w4 (N + 1) (intV (List.replicate 8 0)) 43) := (h2.holds.below h3.below (by omega)).below b4 (by omega)
  have HY4 : Hid (Holds w4 (N + 2) (intV (partI nr.2 0)) 43) := by rw [partI_zero]; exact h3.holds.below b4 (by omega)
  have hz4 : N + 3 ≤ w4.heap.size := by have := b4.size; omega
  clear h1 h2 h3 b3 b4 H3 r3 HR3 hq hq4 HNorm
  go_loopw [9] (fun c wr => ∃ i : Nat, i ≤ 8 ∧ c = .int .i64 (i : Int) ∧ Hid (Holds wr (N + 2) (intV (partI nr.2 i)) 43 ∧ Upd (N + 2) w4 wr)) (fun c _ => 8 - (intOf c).toNat)
  case atStart => exact ⟨0, Nat.zero_le _, rfl, HY4.out, Upd.refl _ _⟩
  case round =>
  obtain ⟨i, hi, rfl, hI⟩ := hrel
  by_cases hlt : i < 8
  · have hlt' : (i : Int) < 8 := by omega
    have hi0 : (0 : Int) ≤ (i : Int) := by omega
    have hx := hidx.out i hlt
    have hsu := partI_succ nr.2 i
    have hml := partI_len nr.2 i
    generalize nr.2.getD i noO = bo at hx hsu
    generalize partI nr.2 i = cu at hsu hml hI
    obtain ⟨hH, hU⟩ := hI.out
    have HH : Hid (Holds wr (N + 2) (intV cu) 43) := hH
    have HU : Hid (Upd (N + 2) w4 wr) := hU
    obtain ⟨M, hM⟩ : ∃ M, wr.heap.size = M := ⟨_, rfl⟩
    have hMN : N + 3 ≤ M := by have := hU.size; omega
    obtain ⟨b1, b2⟩ := bo
    clear hI hH hU
    go_wp2_with (first
      | (refine wpList_alloc_new 5 rfl rfl 25 rfl M hM _ zero25 ?_; intro w5 h5)
      | (refine wpList_store_all rfl 25 (.tmp 5) (.tmp 12) rfl M rfl (owV (b1, b2)) rfl 25 _ h5.holds siz25 rfl (owV_one _) ?_; intro w6 h6; have b6 : Below M wr w6 := h5.below.trans (h6.below (Nat.le_refl _)); have p0 := h6.holds.at 0 _ rfl; have H6 := HH.out.below b6 (by omega))
      | (refine wpList_store_int rfl 3 (.tmp 16) (.tmp 15) rfl siz3 (N + 2) i rfl .i64 b1 rfl (intV cu) 43 H6 (by rw [intV_len, hml]; exact hlt) ?_; intro w7 h7))
    have HF : Holds w7 (N + 2) (intV (partI nr.2 (i + 1))) 43 := by rw [hsu, ← intV_set]; exact h7.holds
    exact ⟨⟨i + 1, by omega, by go_num, HF, (HU.out.to (hM ▸ b6)).trans ⟨h7.os, h7.tape, h7.output, Nat.le_of_eq h7.size.symm, fun k _ hk => h7.others k hk⟩⟩, by simp [intOf]; omega⟩
  · have e8 : i = 8 := by omega
    subst e8
    rw [HALLh.out] at hI
    obtain ⟨hH, hU⟩ := hI.out
    have HX := HX4.out.upd hU (by omega)
    have HU : Hid (Upd (N + 2) w4 wr) := hU
    have hnl : (intV (nr.2.map (·.1))).length = 8 := by rw [intV_len, List.length_map, hol]
    clear hI hU
    have hone : ∀ u ∈ intV (nr.2.map (·.1)), u.oneCell' = true := intV_one _
    obtain ⟨es, hes0⟩ : ∃ es, intV (nr.2.map (·.1)) = es := ⟨_, rfl⟩
    have hes : Hid (intV (nr.2.map (·.1)) = es) := hes0
    rw [hes0] at hH hnl hone
    clear hes0
    go_wp2_with (first
      | (refine wpList_load_all rfl 43 _ rfl _ rfl 43 es 8 3 hH und23 (siz23.trans (congrArg some hnl.symm)) ?_)
      | (refine wpList_store_all rfl 43 (.tmp 2) (.tmp 18) rfl (N + 1) rfl es rfl 43 _ HX (siz23.trans (congrArg some hnl.symm)) hnl.symm hone ?_; intro w9 h9))
    refine bodyPost_ret (results_cell_row (p := 2) (by kernel_rfl) _ w9 (N + 1) 43 es.toArray (0, 0) _ rfl h9.holds und23 rfl (siz23.trans (congrArg some (show es.length = 8 from hnl).symm))) rfl ?_
    rw [hes.out]
    refine ⟨rfl, ?_⟩
    exact (HB4.out.trans (HU.out.below (by omega) (by omega))).trans (h9.below (by omega))
end Go.Proofs.YthmnjebmnocoiaaGreat
