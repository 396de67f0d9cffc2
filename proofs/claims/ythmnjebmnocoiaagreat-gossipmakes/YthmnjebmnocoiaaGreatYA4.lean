/- RgKeepP, RgKeep, RgFill, RgRisen, RgClaim. -/
import Derived.Test.YthmnjebmnocoiaaGreatYA3
/- Keeping and filling, in plain words: what holds from step to step. -/
namespace Go.Proofs.YthmnjebmnocoiaaGreat

def R8 (l : List Int) : Prop := ∀ i, 0 ≤ l.getD i 0 ∧ l.getD i 0 ≤ 8
theorem R8.set {l : List Int} (h : R8 l) (i : Nat) (x : Int) (hx : 0 ≤ x ∧ x ≤ 8) : R8 (l.set i x) := fun k => by
  have := h k
  rw [List.getD_eq_getElem?_getD] at this ⊢
  rw [List.getElem?_set]
  by_cases e : i = k
  · subst e
    rw [if_pos rfl]
    split
    · exact hx
    · simp
  · rw [if_neg e]; exact this
def valI (M : List Int) (x : Option Nat) : Int := match x with | some i => M.getD i 0 | none => 0
def keptV (M : List Int) (l : List (Option Nat)) : List Int := l.map (valI M)
theorem keptV_len (M : List Int) (l : List (Option Nat)) : (keptV M l).length = l.length := by simp [keptV]
theorem kept_some (M : List Int) (l : List (Option Nat)) (i : Nat) (x : Int) (k : Nat) (hk : k < 8) (hl : l.length = k) (hx : M.getD i 0 = x) : keptV M (l ++ [some i]) ++ List.replicate (8 - (k + 1)) 0 = (keptV M l ++ List.replicate (8 - k) 0).set k x := by
  rw [show 8 - k = (8 - (k + 1)) + 1 by omega, List.replicate_succ]
  have hk' : (keptV M l).length = k := by rw [keptV_len]; exact hl
  rw [List.set_append_right _ _ (by omega), hk', Nat.sub_self]
  simp [keptV, valI, ← hx]
theorem kept_none (M : List Int) (l : List (Option Nat)) (k : Nat) (hk : k < 8) : keptV M (l ++ [none]) ++ List.replicate (8 - (k + 1)) 0 = keptV M l ++ List.replicate (8 - k) 0 := by
  rw [show 8 - k = (8 - (k + 1)) + 1 by omega, List.replicate_succ]
  simp [keptV, valI]
theorem keepS_len (s : List (Option Nat) × List Int) (x : Option Nat) : (keepS s x).1.length = s.1.length + 1 ∧ (keepS s x).2.length = s.2.length := by
  unfold keepS
  cases x with
  | none => simp
  | some i => dsimp only; split <;> simp
theorem keepS_R8 {s : List (Option Nat) × List Int} (h : R8 s.2) (x : Option Nat) : R8 (keepS s x).2 := by
  unfold keepS
  cases x with
  | none => exact h
  | some i =>
    dsimp only
    split
    · exact h.set i _ (by have := h i; omega)
    · exact h
theorem sum_set (l : List Int) (i : Nat) (x : Int) (hi : i < l.length) : (l.set i x).sum = l.sum - l.getD i 0 + x := by
  induction l generalizing i with
  | nil => simp at hi
  | cons y l ih =>
    cases i with
    | zero => simp; omega
    | succ i =>
      have := ih i (by simpa using hi)
      simp only [List.set_cons_succ, List.sum_cons, List.getD_cons_succ]
      omega
theorem keepS_sum {s : List (Option Nat) × List Int} (x : Option Nat) (hx : ∀ i, x = some i → i < s.2.length) : (keepS s x).2.sum + 1 = s.2.sum + ((keepS s x).1.count none : Nat) - (s.1.count none : Nat) := by
  unfold keepS
  cases x with
  | none => simp [List.count_append]; omega
  | some i =>
    dsimp only
    split
    · rw [sum_set _ _ _ (hx i rfl)]; simp [List.count_append]; omega
    · simp [List.count_append]; omega
theorem keepS_in {s : List (Option Nat) × List Int} {n : Nat} (x : Option Nat) (hx : ∀ i, x = some i → i < n) (h : ∀ i, some i ∈ s.1 → i < n) : ∀ i, some i ∈ (keepS s x).1 → i < n := fun i hi => by
  unfold keepS at hi
  cases x with
  | none => dsimp only at hi; rw [List.mem_append] at hi; rcases hi with q | q
            · exact h i q
            · simp at q
  | some j =>
    dsimp only at hi
    split at hi
    · rw [List.mem_append] at hi
      rcases hi with q | q
      · exact h i q
      · simp at q; subst q; exact hx i rfl
    · rw [List.mem_append] at hi
      rcases hi with q | q
      · exact h i q
      · simp at q
theorem keepI_facts (n : Nat) : ∀ (oi : List (Option Nat)) (s : List (Option Nat) × List Int), (∀ i, some i ∈ oi → i < n) → s.2.length = n → R8 s.2 → (∀ i, some i ∈ s.1 → i < n) →
    (oi.foldl keepS s).1.length = s.1.length + oi.length ∧ (oi.foldl keepS s).2.length = n ∧ R8 (oi.foldl keepS s).2 ∧ (∀ i, some i ∈ (oi.foldl keepS s).1 → i < n) ∧ (oi.foldl keepS s).2.sum + oi.length = s.2.sum + ((oi.foldl keepS s).1.count none : Nat) - (s.1.count none : Nat)
  | [], s, _, h1, h2, h3 => ⟨by simp, h1, h2, h3, by simp⟩
  | x :: oi, s, h0, h1, h2, h3 => by
    have hx : ∀ i, x = some i → i < n := fun i e => h0 i (by simp [e])
    obtain ⟨a1, a2, a3, a4, a5⟩ := keepI_facts n oi (keepS s x) (fun i hi => h0 i (by simp [hi])) (by rw [(keepS_len s x).2]; exact h1) (keepS_R8 h2 x) (keepS_in x hx h3)
    rw [List.foldl_cons]
    refine ⟨by rw [a1, (keepS_len s x).1, List.length_cons]; omega, a2, a3, a4, ?_⟩
    have := keepS_sum (s := s) x (by rw [h1]; exact hx)
    rw [List.length_cons]; push_cast; omega

theorem sum_zero (l : List Int) (h : ∀ j, l.getD j 0 = 0) : l.sum = 0 := by
  induction l with
  | nil => rfl
  | cons x l ih =>
    have h0 := h 0
    simp at h0
    rw [List.sum_cons, h0, ih (fun j => by simpa using h (j + 1))]; rfl
theorem skip_facts (rm : List Int) (next : Nat) (hz : ∀ j, j < next → rm.getD j 0 = 0) (hs : 0 < rm.sum) :
    next ≤ skipI rm next ∧ skipI rm next < rm.length ∧ rm.getD (skipI rm next) 0 ≠ 0 ∧ ∀ j, j < skipI rm next → rm.getD j 0 = 0 := by
  have hd : ∀ l : List Int, (∀ j, j < (l.takeWhile (· == 0)).length → l.getD j 0 = 0) ∧ ((l.takeWhile (· == 0)).length < l.length → l.getD (l.takeWhile (· == 0)).length 0 ≠ 0) := by
    intro l
    induction l with
    | nil => exact ⟨fun j hj => by simp at hj, fun h => by simp at h⟩
    | cons x l ih =>
      by_cases hx : x = 0
      · subst hx
        rw [List.takeWhile_cons_of_pos (by simp)]
        refine ⟨fun j hj => ?_, fun h => ?_⟩
        · cases j with
          | zero => rfl
          | succ j => rw [List.getD_cons_succ]; exact ih.1 j (by simpa using hj)
        · rw [List.length_cons, List.getD_cons_succ]; exact ih.2 (by simpa using h)
      · rw [List.takeWhile_cons_of_neg (by simpa using hx)]
        exact ⟨fun j hj => by simp at hj, fun _ => by simpa using hx⟩
  have hg : ∀ j, (rm.drop next).getD j 0 = rm.getD (next + j) 0 := fun j => by simp [List.getD_eq_getElem?_getD]
  obtain ⟨h1, h2⟩ := hd (rm.drop next)
  have hall : ∀ j, j < skipI rm next → rm.getD j 0 = 0 := fun j hj => by
    rcases Nat.lt_or_ge j next with g | g
    · exact hz j g
    · have := h1 (j - next) (by unfold skipI at hj; omega)
      rw [hg, show next + (j - next) = j by omega] at this
      exact this
  have hlt : skipI rm next < rm.length := by
    rcases Nat.lt_or_ge (skipI rm next) rm.length with g | g
    · exact g
    · exfalso
      have : rm.sum = 0 := sum_zero rm fun j => by
        rcases Nat.lt_or_ge j rm.length with q | q
        · exact hall j (by omega)
        · rw [List.getD_eq_getElem?_getD, List.getElem?_eq_none q]; rfl
      omega
  refine ⟨by unfold skipI; omega, hlt, ?_, hall⟩
  have := h2 (by rw [List.length_drop]; unfold skipI at hlt; omega)
  rw [hg] at this
  exact this
structure FillOk (n : Nat) (s : List Nat × List Int × Nat) (left : List (Option Nat)) : Prop where
  len : s.2.1.length = n
  r8 : R8 s.2.1
  zeros : ∀ j, j < s.2.2 → s.2.1.getD j 0 = 0
  sum : s.2.1.sum = (left.count none : Nat)
theorem FillOk.some {n : Nat} {s : List Nat × List Int × Nat} {i : Nat} {left : List (Option Nat)} (h : FillOk n s (some i :: left)) : FillOk n (fillS s (some i)) left :=
  ⟨h.len, h.r8, h.zeros, by have := h.sum; show s.2.1.sum = _; simpa using this⟩
theorem FillOk.none {n : Nat} {s : List Nat × List Int × Nat} {left : List (Option Nat)} (h : FillOk n s (none :: left)) : FillOk n (fillS s none) left := by
  have hs : 0 < s.2.1.sum := by rw [h.sum]; simp
  obtain ⟨k0, k1, k2, k3⟩ := skip_facts s.2.1 s.2.2 h.zeros hs
  have hr := h.r8 (skipI s.2.1 s.2.2)
  refine ⟨by simp [fillS, h.len], h.r8.set _ _ (by omega), fun j hj => ?_, ?_⟩
  · show (s.2.1.set _ _).getD j 0 = 0
    have hj' : j < skipI s.2.1 s.2.2 := hj
    rw [List.getD_eq_getElem?_getD, List.getElem?_set_ne (by omega), ← List.getD_eq_getElem?_getD]
    exact k3 j hj'
  · show (s.2.1.set _ _).sum = _
    rw [sum_set _ _ _ k1, h.sum]; simp; omega
end Go.Proofs.YthmnjebmnocoiaaGreat

/- What package ring's keep answers. -/
namespace Go.Proofs.YthmnjebmnocoiaaGreat
open Go.RowKit

structure TUpd (L : Nat → Prop) (w w' : World) : Prop where
  os : w'.os = w.os
  tape : w'.tape = w.tape
  output : w'.output = w.output
  size : w.heap.size ≤ w'.heap.size
  block : ∀ k, k < w.heap.size → ¬ L k → w'.heap[k]? = w.heap[k]?
theorem TUpd.refl (L : Nat → Prop) (w : World) : TUpd L w w := ⟨rfl, rfl, rfl, Nat.le_refl _, fun _ _ _ => rfl⟩
theorem TUpd.trans {L : Nat → Prop} {x y z : World} (h : TUpd L x y) (k : TUpd L y z) : TUpd L x z :=
  ⟨k.os.trans h.os, k.tape.trans h.tape, k.output.trans h.output, Nat.le_trans h.size k.size, fun i hi hb => (k.block i (Nat.lt_of_lt_of_le hi h.size) hb).trans (h.block i hi hb)⟩
theorem TUpd.ofUpd {L : Nat → Prop} {b : Nat} {x y : World} (h : Upd b x y) (hb : L b) : TUpd L x y := ⟨h.os, h.tape, h.output, h.size, fun k hk hl => h.block k hk (fun e => hl (e ▸ hb))⟩
theorem TUpd.setCell {L : Nat → Prop} {b : Nat} {x y : World} (h : TUpd L x y) (hb : L b) (i : Nat) (v : Value) : TUpd L x (y.setCell ⟨b, i, none⟩ v) := h.trans (TUpd.ofUpd ((Upd.refl b y).setCell i v) hb)
theorem TUpd.drewN {L : Nat → Prop} {x y : World} (h : TUpd L x y) (q : Nat) : TUpd L x (y.drewN q) := by
  have hb := below_drewN y.heap.size y q
  exact h.trans ⟨hb.os, hb.tape, hb.output, hb.size, fun k hk _ => hb.block k hk⟩
theorem TUpd.below {L : Nat → Prop} {B : Nat} {x y : World} (h : TUpd L x y) (hs : B ≤ x.heap.size) (hl : ∀ k, k < B → ¬ L k) : Below B x y :=
  ⟨h.os, h.tape, h.output, h.size, fun k hk => h.block k (by omega) (hl k hk)⟩
theorem Holds.tupd {L : Nat → Prop} {w w' : World} {b : Nat} {cs : List Value} {t : TypeId} (h : Holds w b cs t) (hu : TUpd L w w') (hl : ¬ L b) : Holds w' b cs t := by
  unfold Holds
  rw [hu.block b h.lt hl]; exact h
theorem zero23 (w : World) : (zeroValue 43).run Tryz.prog w = .ok (.agg (intV (List.replicate 8 0)).toArray) w := Tryz.zeroValue43 w

set_option maxHeartbeats 2000000 in
theorem keep_any (B : Nat) (o : List Int) (ho : o.length = 8) (v : Value) (M : List Int) (hM : M.Pairwise (· < ·)) (hl : M.length ≤ 1099511627776) (g : Nat) (room : List Int) (hr : room.length = M.length) (hr8 : R8 room) (w : World) (hv : Ints B w v M) (hB : B ≤ w.heap.size) (hBg : B ≤ g) (hg : Holds w g (intV room) 3) :
    Calls Tryz.prog 71 #[.agg (intV o).toArray, v, .slice (some ⟨g, 0, none⟩) M.length M.length] w fun e w' => e = .returned (.agg (intV (keptV M (keepI (o.map (findI M)) room).1)).toArray) ∧ Holds w' g (intV (keepI (o.map (findI M)) room).2) 3 ∧ Upd g w w' := by
  obtain ⟨N, hN⟩ : ∃ N, w.heap.size = N := ⟨_, rfl⟩
  have hgN : g < N := by rw [← hN]; exact hg.lt
  rw [hN] at hB
  have HS : Hid (∀ W x i, Below B w W → findI M x = some i → Calls Tryz.prog 100 #[v, .int .i64 x] W fun e w' => e = .returned (.tuple #[.int .i64 (i : Int), .bool true]) ∧ ∃ q, w' = W.drewN q) := fun W x i hW hf => search_some B W v M x i (hv.below hW) hM (by omega) hf
  have HN : Hid (∀ W x, Below B w W → findI M x = none → Calls Tryz.prog 100 #[v, .int .i64 x] W fun e w' => ∃ j : Int, e = .returned (.tuple #[.int .i64 j, .bool false]) ∧ ∃ q, w' = W.drewN q) := fun W x hW hf => search_none B W v M x (hv.below hW) hM (by omega) hf
  have HI : Hid (∀ k : Nat, k < 8 → ∀ W, (Instr.index 43 (.agg (intV o).toArray) (.int .i64 (k : Int))).run Tryz.prog W = .ok (.int .i64 (o.getD k 0)) W) := fun k hk W => index_own o ho k hk W
  have HM : Hid (M.Pairwise (· < ·)) := hM
  have HO : Hid (o.length = 8) := ho
  have HG : Hid (Holds w g (intV room) 3) := hg
  have hF : ∀ k, ((o.take k).map (findI M)).length = min k 8 ∧ ∀ i, some i ∈ (o.take k).map (findI M) → i < M.length := fun k => by
    refine ⟨by simp [ho], fun i hi => ?_⟩
    obtain ⟨x, _, hx⟩ := List.mem_map.1 hi
    exact (findI_some hM hx).1
  have HK : Hid (∀ k, k ≤ 8 → (((o.take k).map (findI M)).foldl keepS ([], room)).1.length = k ∧ (((o.take k).map (findI M)).foldl keepS ([], room)).2.length = M.length ∧ R8 (((o.take k).map (findI M)).foldl keepS ([], room)).2) := fun k hk => by
    obtain ⟨a1, a2, a3, _⟩ := keepI_facts M.length ((o.take k).map (findI M)) ([], room) (hF k).2 hr hr8 (fun i hi => by simp at hi)
    refine ⟨?_, a2, a3⟩
    rw [a1, (hF k).1, Nat.min_eq_left hk]
    simp
  obtain ⟨a, cap, rfl⟩ := hv.len
  obtain ⟨n, hn⟩ : ∃ n, M.length = n := ⟨_, rfl⟩
  have HL : Hid (M.length = n) := hn
  rw [hn] at hl HS HN HK ⊢
  clear hn hv hM ho hr hr8 hF hg
  go_enter Tryz.func71, Tryz.ntmps71
  go_wp2_with (first
    | (refine wpList_box_new 3 rfl rfl 43 _ rfl N hN _ rfl ?_; intro w1 h1)
    | (refine wpList_alloc_new 6 rfl rfl 43 rfl (N + 1) h1.size _ zero23 ?_; intro w2 h2)
    | (refine wpList_alloc_new 7 rfl rfl 43 rfl (N + 2) h2.size _ zero23 ?_; intro w3 h3; have H13 := (h1.holds.below h2.below (by omega)).below h3.below (by omega))
    | (refine wpList_load_all rfl 43 _ rfl _ rfl 43 (intV o) 8 3 H13 und23 (by rw [siz23, intV_len, HO.out]) ?_))
  have B3 : Below N w w3 := (h1.below.trans (h2.below.mono (by omega))).trans (h3.below.mono (by omega))
  have HB3 : Hid (Below N w w3) := B3
  have HG3 : Hid (Holds w3 g (intV (((o.take 0).map (findI M)).foldl keepS ([], room)).2) 3) := HG.out.below B3 hgN
  have HK3 : Hid (Holds w3 (N + 2) (intV (keptV M (((o.take 0).map (findI M)).foldl keepS ([], room)).1 ++ List.replicate (8 - 0) 0)) 43) := h3.holds
  have HR3 : Hid (Holds w3 (N + 1) (intV (List.replicate 8 0)) 43) := h2.holds.below h3.below (by omega)
  have hz3 : w3.heap.size = N + 3 := h3.size
  clear B3 h1 h2 h3 H13
  go_loopw [13] (fun c wr => ∃ k : Nat, k ≤ 8 ∧ c = .int .i64 (k : Int) ∧ Holds wr g (intV (((o.take k).map (findI M)).foldl keepS ([], room)).2) 3 ∧ Holds wr (N + 2) (intV (keptV M (((o.take k).map (findI M)).foldl keepS ([], room)).1 ++ List.replicate (8 - k) 0)) 43 ∧ TUpd (fun i => i = g ∨ i = N + 2) w3 wr) (fun c _ => 8 - (intOf c).toNat)
  case atStart => exact ⟨0, by omega, rfl, HG3.out, HK3.out, TUpd.refl _ _⟩
  case round =>
  clear HG3 HK3
  obtain ⟨k, hk, rfl, hh, hkp, hU⟩ := hrel
  by_cases hlt : k < 8
  · have hix := HI.out k hlt
    have hstep : (o.take (k + 1)).map (findI M) = (o.take k).map (findI M) ++ [findI M (o.getD k 0)] := by
      rw [List.take_add_one, getD_at o k (by rw [HO.out]; exact hlt), List.map_append]; rfl
    obtain ⟨f1, f2, f3⟩ := HK.out k hk
    have hfold : ((o.take (k + 1)).map (findI M)).foldl keepS ([], room) = keepS (((o.take k).map (findI M)).foldl keepS ([], room)) (findI M (o.getD k 0)) := by
      rw [hstep, List.foldl_append]; rfl
    generalize o.getD k 0 = x at hix hfold
    generalize ((o.take k).map (findI M)).foldl keepS ([], room) = S at hh hkp hfold f1 f2 f3
    obtain ⟨K, R⟩ := S
    replace hh : Holds wr g (intV R) 3 := hh
    replace hkp : Holds wr (N + 2) (intV (keptV M K ++ List.replicate (8 - k) 0)) 43 := hkp
    replace f1 : K.length = k := f1
    replace f2 : R.length = n := f2
    replace f3 : R8 R := f3
    have i0 : (0 : Int) ≤ (k : Int) := by omega
    have i1 : (k : Int) < 8 := by omega
    have hb : Below B w wr := (HB3.out.mono hB).trans (hU.below (by omega) (fun i hi q => by omega))
    have HU : Hid (TUpd (fun i => i = g ∨ i = N + 2) w3 wr) := hU
    have HH : Hid (Holds wr g (intV R) 3) := hh
    have HKP : Hid (Holds wr (N + 2) (intV (keptV M K ++ List.replicate (8 - k) 0)) 43) := hkp
    cases hf : findI M x with
    | some i =>
      obtain ⟨hi, hMi, -, -⟩ := findI_some HM.out hf
      rw [HL.out] at hi
      have hC : Hid (Calls Tryz.prog 100 #[.slice a n cap, .int .i64 x] wr fun e w' => e = .returned (.tuple #[.int .i64 (i : Int), .bool true]) ∧ ∃ q, w' = wr.drewN q) := HS.out wr x i hb hf
      rw [hf] at hfold
      obtain ⟨y0, y1⟩ := f3 i
      have hcell : ∀ q, (wr.drewN q).cell? ⟨g, i, none⟩ = some (.int .i64 (R.getD i 0)) := fun q => (hh.drewN q).at i _ (intV_at _ i (by omega))
      have hfr : ∀ q, (wr.drewN q).frozen? ⟨g, i, none⟩ = false := fun q => (hh.drewN q).frozen i
      have kl : k < (keptV M K ++ List.replicate (8 - k) (0 : Int)).length := by rw [List.length_append, keptV_len, f1, List.length_replicate]; omega
      have kcell : ∀ q, (wr.drewN q).cell? ⟨N + 2, k, none⟩ = some (.int .i64 ((keptV M K ++ List.replicate (8 - k) 0).getD k 0)) := fun q => (hkp.drewN q).at k _ (intV_at _ k kl)
      have kfr : ∀ q, (wr.drewN q).frozen? ⟨N + 2, k, none⟩ = false := fun q => (hkp.drewN q).frozen k
      have j0 : (0 : Int) ≤ (i : Int) := by omega
      have j1 : (i : Int) < (n : Int) := by omega
      have hne : g ≠ N + 2 := by omega
      by_cases hy : 0 < R.getD i 0
      · have hst : Hid (((o.take (k + 1)).map (findI M)).foldl keepS ([], room) = (K ++ [some i], R.set i (R.getD i 0 - 1))) := by
          show _ = _
          rw [hfold, keepS]; dsimp only; rw [if_pos hy]
        have hkst : Hid (keptV M (K ++ [some i]) ++ List.replicate (8 - (k + 1)) 0 = (keptV M K ++ List.replicate (8 - k) 0).set k x) := kept_some M K i x k hlt f1 hMi
        generalize R.getD i 0 = y at hst y0 y1 hcell hy
        generalize (keptV M K ++ List.replicate (8 - k) 0).getD k 0 = z at kcell
        clear hf hfold hh hkp hU hb hMi f1 f2 f3 kl hstep
        go_wp2_with (go_at_call 100; refine hC.out.mono ?_; rintro e w4 ⟨rfl, q, rfl⟩; have hcq := hcell q; have hfq := hfr q; have kcq := kcell q; have kfq := kfr q; clear hcell hfr kcell kfr)
        refine ⟨⟨k + 1, by omega, by go_num, ?_, ?_, ?_⟩, by simp [intOf]; omega⟩
        · rw [hst.out, ← intV_set]
          exact ((HH.out.drewN q).setOther _ _ _ hne).set i _
        · rw [hst.out, hkst.out, ← intV_set]
          exact ((HKP.out.drewN q).set k _).setOther _ _ _ (fun e => hne e.symm)
        · exact ((HU.out.drewN q).setCell (Or.inr rfl) _ _).setCell (Or.inl rfl) _ _
      · have hst : Hid (((o.take (k + 1)).map (findI M)).foldl keepS ([], room) = (K ++ [none], R)) := by
          show _ = _
          rw [hfold, keepS]; dsimp only; rw [if_neg hy]
        have hkst : Hid (keptV M (K ++ [none]) ++ List.replicate (8 - (k + 1)) 0 = keptV M K ++ List.replicate (8 - k) 0) := kept_none M K k hlt
        generalize R.getD i 0 = y at hst y0 y1 hcell hy
        clear hf hfold hh hkp hU hb hMi f1 f2 f3 kl hstep kcell kfr
        go_wp2_with (go_at_call 100; refine hC.out.mono ?_; rintro e w4 ⟨rfl, q, rfl⟩; have hcq := hcell q; have hfq := hfr q; clear hcell hfr)
        refine ⟨⟨k + 1, by omega, by go_num, ?_, ?_, ?_⟩, by simp [intOf]; omega⟩
        · rw [hst.out]; exact HH.out.drewN q
        · rw [hst.out, hkst.out]; exact HKP.out.drewN q
        · exact HU.out.drewN q
    | none =>
      have hC : Hid (Calls Tryz.prog 100 #[.slice a n cap, .int .i64 x] wr fun e w' => ∃ j : Int, e = .returned (.tuple #[.int .i64 j, .bool false]) ∧ ∃ q, w' = wr.drewN q) := HN.out wr x hb hf
      rw [hf] at hfold
      have hst : Hid (((o.take (k + 1)).map (findI M)).foldl keepS ([], room) = (K ++ [none], R)) := by
        show _ = _
        rw [hfold, keepS]
      have hkst : Hid (keptV M (K ++ [none]) ++ List.replicate (8 - (k + 1)) 0 = keptV M K ++ List.replicate (8 - k) 0) := kept_none M K k hlt
      clear hf hfold hh hkp hU hb f1 f2 f3 hstep
      go_wp2_with (go_at_call 100; refine hC.out.mono ?_; rintro e w4 ⟨j, rfl, q, rfl⟩)
      refine ⟨⟨k + 1, by omega, by go_num, ?_, ?_, ?_⟩, by simp [intOf]; omega⟩
      · rw [hst.out]; exact HH.out.drewN q
      · rw [hst.out, hkst.out]; exact HKP.out.drewN q
      · exact HU.out.drewN q
  · have e8 : k = 8 := by omega
    subst e8
    have h1 : (keepI (o.map (findI M)) room).1.length = 8 := by
      have := (HK.out 8 (by omega)).1
      rw [List.take_of_length_le (by rw [HO.out]; omega)] at this
      exact this
    rw [List.take_of_length_le (by rw [HO.out]; omega), Nat.sub_self, List.replicate_zero, List.append_nil] at hkp
    rw [List.take_of_length_le (by rw [HO.out]; omega)] at hh
    replace hkp : Holds wr (N + 2) (intV (keptV M (keepI (o.map (findI M)) room).1)) 43 := hkp
    replace hh : Holds wr g (intV (keepI (o.map (findI M)) room).2) 3 := hh
    generalize hKK : keepI (o.map (findI M)) room = KK at hkp hh h1
    have HKK : Hid (keepI (o.map (findI M)) room = KK) := hKK
    clear hKK
    have hres := HR3.out.tupd hU (by omega)
    have HU : Hid (TUpd (fun i => i = g ∨ i = N + 2) w3 wr) := hU
    have HH : Hid (Holds wr g (intV KK.2) 3) := hh
    have hlen : (intV (keptV M KK.1)).length = 8 := by rw [intV_len, keptV_len, h1]
    clear hU hh
    go_wp2_with (first
      | (refine wpList_load_all rfl 43 _ rfl _ rfl 43 (intV (keptV M KK.1)) 8 3 hkp und23 (by rw [siz23, hlen]) ?_)
      | (refine wpList_store_all rfl 43 (.tmp 6) (.tmp 41) rfl (N + 1) rfl (intV (keptV M KK.1)) rfl 43 _ hres (by rw [siz23, hlen]) (by rw [hlen, intV_len]; rfl) (intV_one _) ?_; intro w5 h5))
    refine bodyPost_ret (results_cell_row (p := 6) (by kernel_rfl) _ w5 (N + 1) 43 (intV (keptV M KK.1)).toArray (0, 0) _ rfl h5.holds und23 rfl (by rw [siz23, List.size_toArray, hlen])) rfl ⟨by rw [HKK.out], ?_, ?_⟩
    · rw [HKK.out]
      unfold Holds
      rw [h5.others g (by omega)]; exact HH.out
    · refine ⟨h5.os.trans (HU.out.os.trans HB3.out.os), h5.tape.trans (HU.out.tape.trans HB3.out.tape), h5.output.trans (HU.out.output.trans HB3.out.output), ?_, fun i hi hne => ?_⟩
      · rw [h5.size]; exact Nat.le_trans HB3.out.size HU.out.size
      · rw [h5.others i (by omega), HU.out.block i (by omega) (fun q => by rcases q with q | q <;> omega), HB3.out.block i (by omega)]
end Go.Proofs.YthmnjebmnocoiaaGreat

/- What package ring's fill answers. -/
namespace Go.Proofs.YthmnjebmnocoiaaGreat
open Go.RowKit

def outV (M : List Int) (l : List Nat) : List Int := l.map fun i => M.getD i 0
theorem outV_len (M : List Int) (l : List Nat) : (outV M l).length = l.length := by simp [outV]
def midV (M : List Int) (out : List Nat) (left : List (Option Nat)) : List Int := outV M out ++ keptV M left
theorem midV_len (M : List Int) (out : List Nat) (left : List (Option Nat)) : (midV M out left).length = out.length + left.length := by simp [midV, outV_len, keptV_len]
theorem midV_some (M : List Int) (out : List Nat) (i : Nat) (left : List (Option Nat)) : midV M (out ++ [i]) left = midV M out (some i :: left) := by simp [midV, outV, keptV, valI]
theorem midV_none (M : List Int) (out : List Nat) (i : Nat) (left : List (Option Nat)) : midV M (out ++ [i]) left = (midV M out (none :: left)).set out.length (M.getD i 0) := by
  unfold midV
  rw [List.set_append_right _ _ (by rw [outV_len]; omega), outV_len, Nat.sub_self]
  simp [outV, keptV, valI]
theorem fillS_len (s : List Nat × List Int × Nat) (x : Option Nat) : (fillS s x).1.length = s.1.length + 1 := by
  cases x <;> simp [fillS]
theorem fold_len (l : List (Option Nat)) : ∀ s : List Nat × List Int × Nat, (l.foldl fillS s).1.length = s.1.length + l.length := by
  induction l with
  | nil => intro s; rfl
  | cons x l ih => intro s; rw [List.foldl_cons, ih, fillS_len, List.length_cons]; omega
theorem fill_ok (n : Nat) (l : List (Option Nat)) : ∀ (k : Nat) (s : List Nat × List Int × Nat), FillOk n s l → FillOk n ((l.take k).foldl fillS s) (l.drop k) := by
  induction l with
  | nil => intro k s h; simpa using h
  | cons x l ih =>
    intro k s h
    cases k with
    | zero => exact h
    | succ k =>
      rw [List.take_succ_cons, List.foldl_cons, List.drop_succ_cons]
      apply ih
      cases x with
      | none => exact h.none
      | some i => exact h.some

set_option maxHeartbeats 2000000 in
theorem fill_any (B : Nat) (v : Value) (M : List Int) (hp : ∀ x ∈ M, 0 < x) (hl : M.length ≤ 1099511627776) (g : Nat) (kept : List (Option Nat)) (hk8 : kept.length = 8) (hin : ∀ i, some i ∈ kept → i < M.length) (room : List Int) (hok : FillOk M.length ([], room, 0) kept) (w : World) (hv : Ints B w v M) (hB : B ≤ w.heap.size) (hBg : B ≤ g) (hg : Holds w g (intV room) 3) :
    Calls Tryz.prog 70 #[.agg (intV (keptV M kept)).toArray, v, .slice (some ⟨g, 0, none⟩) M.length M.length] w fun e w' => e = .returned (.agg (intV (outV M (fillI kept room))).toArray) ∧ Upd g w w' := by
  obtain ⟨N, hN⟩ : ∃ N, w.heap.size = N := ⟨_, rfl⟩
  have hgN : g < N := by rw [← hN]; exact hg.lt
  rw [hN] at hB
  have HOk : Hid (∀ k, FillOk M.length ((kept.take k).foldl fillS ([], room, 0)) (kept.drop k)) := fun k => fill_ok M.length kept k _ hok
  have HLn : Hid (∀ k, k ≤ 8 → ((kept.take k).foldl fillS ([], room, 0)).1.length = k) := fun k hk => by rw [fold_len]; simp; omega
  have HI : Hid (∀ k : Nat, k < 8 → ∀ W, (Instr.index 43 (.agg (intV (keptV M kept)).toArray) (.int .i64 (k : Int))).run Tryz.prog W = .ok (.int .i64 ((keptV M kept).getD k 0)) W) := fun k hk W => index_own (keptV M kept) (by rw [keptV_len]; exact hk8) k hk W
  have HP : Hid (∀ i, i < M.length → 0 < M.getD i 0) := fun i hi => by
    rw [List.getD_eq_getElem?_getD, List.getElem?_eq_getElem hi]
    exact hp _ (List.getElem_mem hi)
  have HV : Hid (∀ W i, Below B w W → i < M.length → ∃ b o, v.ownBlock = some b ∧ (∃ c, v = .slice (some ⟨b, o, none⟩) M.length c) ∧ W.cell? ⟨b, o + i, none⟩ = some (.int .i64 (M.getD i 0))) := fun W i hW hi => by
    obtain ⟨a, c, e, _, h0 | ⟨b, o, e1, _, h2⟩⟩ := hv.below hW
    · omega
    · subst e; subst e1
      exact ⟨b, o, rfl, ⟨c, rfl⟩, h2 i hi⟩
  have H8 : Hid (kept.length = 8) := hk8
  have HIn : Hid (∀ i, some i ∈ kept → i < M.length) := hin
  have HG : Hid (Holds w g (intV room) 3) := hg
  obtain ⟨a, cap, rfl⟩ := hv.len
  obtain ⟨n, hn⟩ : ∃ n, M.length = n := ⟨_, rfl⟩
  rw [hn] at hl HOk HP HV HIn ⊢
  clear hn hv hp hok hk8 hin hg
  go_enter Tryz.func70, Tryz.ntmps70
  go_wp2_with (first
    | (refine wpList_box_new 3 rfl rfl 43 _ rfl N hN _ rfl ?_; intro w1 h1)
    | (refine wpList_alloc_new 6 rfl rfl 43 rfl (N + 1) h1.size _ zero23 ?_; intro w2 h2; have H12 := h1.holds.below h2.below (by omega))
    | (refine wpList_load_all rfl 43 _ rfl _ rfl 43 (intV (keptV M kept)) 8 3 H12 und23 (by rw [siz23, intV_len, keptV_len, H8.out]) ?_))
  have B2 : Below N w w2 := h1.below.trans (h2.below.mono (by omega))
  have HB2 : Hid (Below N w w2) := B2
  have HG2 : Hid (Holds w2 g (intV ((kept.take 0).foldl fillS ([], room, 0)).2.1) 3) := HG.out.below B2 hgN
  have HK2 : Hid (Holds w2 N (intV (midV M ((kept.take 0).foldl fillS ([], room, 0)).1 (kept.drop 0))) 43) := H12
  have HR2 : Hid (Holds w2 (N + 1) (intV (List.replicate 8 0)) 43) := h2.holds
  have hz2 : w2.heap.size = N + 2 := h2.size
  clear B2 h1 h2 H12
  go_loopw [7, 11] (fun nx c wr => ∃ k : Nat, k ≤ 8 ∧ c = .int .i64 (k : Int) ∧ nx = .int .i64 ((((kept.take k).foldl fillS ([], room, 0)).2.2 : Nat) : Int) ∧ Holds wr g (intV ((kept.take k).foldl fillS ([], room, 0)).2.1) 3 ∧ Holds wr N (intV (midV M ((kept.take k).foldl fillS ([], room, 0)).1 (kept.drop k))) 43 ∧ TUpd (fun i => i = g ∨ i = N) w2 wr) (fun _ c _ => 8 - (intOf c).toNat)
  case atStart => exact ⟨0, by omega, rfl, rfl, HG2.out, HK2.out, TUpd.refl _ _⟩
  case round =>
  clear HG2 HK2
  obtain ⟨k, hk, rfl, rfl, hh, hkp, hU⟩ := hrel
  by_cases hlt : k < 8
  · have hix := HI.out k hlt
    obtain ⟨x, hx⟩ : ∃ x, kept[k]? = some x := ⟨_, List.getElem?_eq_getElem (by rw [H8.out]; exact hlt)⟩
    have hdr : kept.drop k = x :: kept.drop (k + 1) := List.drop_eq_getElem?_toList_append.trans (by rw [hx]; rfl)
    have hval : (keptV M kept).getD k 0 = valI M x := by simp [keptV, List.getD_eq_getElem?_getD, hx]
    rw [hval] at hix
    have hfold := foldl_take_succ fillS ([], room, 0) kept k x hx
    have hok := HOk.out k
    have hlen := HLn.out k hk
    rw [hdr] at hkp hok
    generalize (kept.take k).foldl fillS ([], room, 0) = S at hh hkp hfold hok hlen
    obtain ⟨out, rm, next⟩ := S
    replace hh : Holds wr g (intV rm) 3 := hh
    replace hkp : Holds wr N (intV (midV M out (x :: kept.drop (k + 1)))) 43 := hkp
    replace hlen : out.length = k := hlen
    have i0 : (0 : Int) ≤ (k : Int) := by omega
    have i1 : (k : Int) < 8 := by omega
    have hb : Below B w wr := (HB2.out.mono hB).trans (hU.below (by omega) (fun i hi q => by rcases q with q | q <;> omega))
    have HU : Hid (TUpd (fun i => i = g ∨ i = N) w2 wr) := hU
    have HH : Hid (Holds wr g (intV rm) 3) := hh
    have HKP : Hid (Holds wr N (intV (midV M out (x :: kept.drop (k + 1)))) 43) := hkp
    cases x with
    | some i =>
      have hi := HIn.out i (List.mem_of_getElem? hx)
      have hpos := HP.out i hi
      have hSm : Hid (∀ W, Calls Tryz.prog 95 #[.int .i64 (M.getD i 0)] W fun e w' => e = .returned (.bool true) ∧ w' = W) := fun W => by
        have := somebody_any (M.getD i 0) W
        rwa [decide_eq_true hpos] at this
      have hix' : ∀ W, (Instr.index 43 (.agg (intV (keptV M kept)).toArray) (.int .i64 (k : Int))).run Tryz.prog W = .ok (.int .i64 (M.getD i 0)) W := hix
      have hst : Hid ((kept.take (k + 1)).foldl fillS ([], room, 0) = (out ++ [i], rm, next)) := hfold
      generalize hy : M.getD i 0 = y at hSm hix' hpos
      clear hix hx hdr hval hfold hok hlen hh hkp hU hb hy
      go_wp2_with (go_at_call 95; refine (hSm.out _).mono ?_; rintro e w4 ⟨rfl, rfl⟩)
      refine ⟨⟨k + 1, by omega, by go_num, ?_, ?_, ?_, HU.out⟩, by simp [intOf]; omega⟩
      · rw [hst.out]
      · rw [hst.out]; exact HH.out
      · rw [hst.out, midV_some]; exact HKP.out
    | none =>
      have hSm : Hid (∀ W, Calls Tryz.prog 95 #[.int .i64 0] W fun e w' => e = .returned (.bool false) ∧ w' = W) := fun W => somebody_any 0 W
      have hix' : ∀ W, (Instr.index 43 (.agg (intV (keptV M kept)).toArray) (.int .i64 (k : Int))).run Tryz.prog W = .ok (.int .i64 0) W := hix
      have hsp : 0 < rm.sum := by have := hok.sum; simp at this; omega
      obtain ⟨s0, s1, s2, s3⟩ := skip_facts rm next hok.zeros hsp
      have hrl : rm.length = n := hok.len
      obtain ⟨y0, y1⟩ := hok.r8 (skipI rm next)
      have hst : Hid ((kept.take (k + 1)).foldl fillS ([], room, 0) = (out ++ [skipI rm next], rm.set (skipI rm next) (rm.getD (skipI rm next) 0 - 1), skipI rm next)) := hfold
      have hrl2 : Hid (rm.length = n) := hrl
      have s3' : Hid (∀ j, j < skipI rm next → rm.getD j 0 = 0) := s3
      generalize skipI rm next = sk at s0 s1 s2 s3' hst y0 y1
      rw [hrl] at s1
      obtain ⟨b, of_, -, ⟨c, ec⟩, hnod⟩ := HV.out wr sk hb s1
      cases ec
      have hml : k < (midV M out (none :: kept.drop (k + 1))).length := by rw [midV_len, List.length_cons]; omega
      have kcell := hkp.at k _ (intV_at _ k hml)
      have kfr := hkp.frozen k
      have rcell := hh.at sk _ (intV_at _ sk (by omega))
      have rfr := hh.frozen sk
      have hmid : Hid (midV M (out ++ [sk]) (kept.drop (k + 1)) = (midV M out (none :: kept.drop (k + 1))).set k (M.getD sk 0)) := by
        show _ = _
        rw [midV_none, hlen]
      generalize (midV M out (none :: kept.drop (k + 1))).getD k 0 = z at kcell
      generalize hq : rm.getD sk 0 = y at rcell y0 y1 s2
      have HQ : Hid (rm.getD sk 0 = y) := hq
      generalize M.getD sk 0 = mx at hnod hmid
      have hne : g ≠ N := by omega
      have j0 : (0 : Int) ≤ (sk : Int) := by omega
      have j1 : (sk : Int) < (n : Int) := by omega
      have hypos : 0 < y := by omega
      clear hix hx hdr hval hfold hok hlen hkp hU hb hsp s3 hml hq hrl
      go_wp2_with (go_at_call 95; refine (hSm.out _).mono ?_; rintro e w4 ⟨rfl, rfl⟩)
      go_loopw [7] (fun nx wq => ∃ j : Nat, next ≤ j ∧ j ≤ sk ∧ nx = .int .i64 (j : Int) ∧ wq = w4) (fun nx _ => sk - (intOf nx).toNat)
      case atStart => exact ⟨next, Nat.le_refl _, s0, rfl, rfl⟩
      case round =>
      obtain ⟨j, hj0, hj1, rfl, rfl⟩ := hrel
      by_cases hjs : j < sk
      · have jc := HH.out.at j _ (intV_at _ j (by have := hrl2.out; omega))
        rw [s3'.out j hjs] at jc
        have t0 : (0 : Int) ≤ (j : Int) := by omega
        have t1 : (j : Int) < (n : Int) := by omega
        have t2 : (j : Int) + 1 ≤ 1099511627776 := by omega
        clear rcell kcell rfr kfr hnod
        go_wp2
        exact ⟨⟨j + 1, by omega, by omega, by go_num, trivial⟩, by simp [intOf]; omega⟩
      · have ej : j = sk := by omega
        subst ej
        clear hjs
        go_wp2
        refine ⟨⟨k + 1, by omega, by go_num, ?_, ?_, ?_, ?_⟩, by simp [intOf]; omega⟩
        · rw [hst.out]
        · rw [hst.out, HQ.out, ← intV_set]
          exact (HH.out.setOther _ _ _ hne).set j _
        · rw [hst.out, hmid.out, ← intV_set]
          exact (HKP.out.set k _).setOther _ _ _ (fun e => hne e.symm)
        · exact (HU.out.setCell (Or.inr rfl) _ _).setCell (Or.inl rfl) _ _
  · have e8 : k = 8 := by omega
    subst e8
    have h1 : (fillI kept room).length = 8 := by
      have := HLn.out 8 (by omega)
      rw [List.take_of_length_le (by rw [H8.out]; omega)] at this
      exact this
    rw [List.take_of_length_le (by rw [H8.out]; omega), List.drop_eq_nil_of_le (by rw [H8.out]; omega)] at hkp
    replace hkp : Holds wr N (intV (outV M (fillI kept room))) 43 := by
      have e : midV M (fillI kept room) [] = outV M (fillI kept room) := by simp [midV, keptV]
      rw [← e]; exact hkp
    generalize hKK : fillI kept room = KK at hkp h1
    have HKK : Hid (fillI kept room = KK) := hKK
    have hres := HR2.out.tupd hU (by omega)
    have HU : Hid (TUpd (fun i => i = g ∨ i = N) w2 wr) := hU
    have hlen : (intV (outV M KK)).length = 8 := by rw [intV_len, outV_len, h1]
    clear hU hh hKK h1
    generalize ((List.take 8 kept).foldl fillS ([], room, 0)).2.2 = nx
    go_wp2_with (first
      | (refine wpList_load_all rfl 43 _ rfl _ rfl 43 (intV (outV M KK)) 8 3 hkp und23 (by rw [siz23, hlen]) ?_)
      | (refine wpList_store_all rfl 43 (.tmp 6) (.tmp 37) rfl (N + 1) rfl (intV (outV M KK)) rfl 43 _ hres (by rw [siz23, hlen]) (by rw [hlen, intV_len]; rfl) (intV_one _) ?_; intro w5 h5))
    refine bodyPost_ret (results_cell_row (p := 6) (by kernel_rfl) _ w5 (N + 1) 43 (intV (outV M KK)).toArray (0, 0) _ rfl h5.holds und23 rfl (by rw [siz23, List.size_toArray, hlen])) rfl ⟨by rw [HKK.out], ?_⟩
    refine ⟨h5.os.trans (HU.out.os.trans HB2.out.os), h5.tape.trans (HU.out.tape.trans HB2.out.tape), h5.output.trans (HU.out.output.trans HB2.out.output), ?_, fun i hi hne => ?_⟩
    · rw [h5.size]; exact Nat.le_trans HB2.out.size HU.out.size
    · rw [h5.others i (by omega), HU.out.block i (by omega) (fun q => by rcases q with q | q <;> omega), HB2.out.block i (by omega)]
end Go.Proofs.YthmnjebmnocoiaaGreat

/- What package ring's risen answers. -/
namespace Go.Proofs.YthmnjebmnocoiaaGreat
open Go.RowKit

def posL (ms : List Int) : List Int := ms.filter fun x => decide (0 < x)
def sortL (l : List Int) : List Int := l.mergeSort fun x y => decide (x ≤ y)
def risenL (ms : List Int) : List Int := Lib.compact (sortL (posL ms))
theorem posL_take (l : List Int) (k : Nat) (x : Int) (h : l[k]? = some x) : posL (l.take (k + 1)) = posL (l.take k) ++ (if 0 < x then [x] else []) := by
  unfold posL
  rw [List.take_add_one, h, List.filter_append]
  by_cases hx : 0 < x
  · rw [if_pos hx]; simp [hx]
  · rw [if_neg hx]; simp [hx]
theorem posL_len (l : List Int) : (posL l).length ≤ l.length := List.length_filter_le ..
theorem sortL_len (l : List Int) : (sortL l).length = l.length := by simp [sortL]
theorem srt_cmp {w : World} {n : Nat} {v : Value} {L : List Int} (h : w.ownsRow n 3 1 v L.length (intV L)) (hl : L.length ≤ 1099511627776) :
    Calls Tryz.prog 96 #[v] w fun e w' => e = .returned (.tuple #[]) ∧ (∀ W, W = w' → Calls Tryz.prog 97 #[v] W fun e w' => ∃ u, e = .returned u ∧ Ints w'.heap.size w' u (Lib.compact (sortL L)) ∧ Below n w w') := by
  have key : ∀ (a : Option Addr) (cap : Nat), v = .slice a 0 cap → L.length = 0 → Calls Tryz.prog 96 #[v] w fun e w' => e = .returned (.tuple #[]) ∧ (∀ W, W = w' → Calls Tryz.prog 97 #[v] W fun e w' => ∃ u, e = .returned u ∧ Ints w'.heap.size w' u (Lib.compact (sortL L)) ∧ Below n w w') := fun a cap e h0 => by
    have e0 : L = [] := List.eq_nil_of_length_eq_zero h0
    subst e0
    subst e
    refine (Tryz.slices_Sort_int_none a cap w).mono ?_
    rintro e w' ⟨rfl, rfl⟩
    refine ⟨rfl, fun W hW => ?_⟩
    subst hW
    refine (Tryz.slices_Compact_int_empty a cap _).mono ?_
    rintro e w' ⟨rfl, rfl⟩
    have hnil : Lib.compact (sortL []) = [] := by simp [sortL, Lib.compact, Lib.compactUpTo]
    rw [hnil]
    exact ⟨_, rfl, ⟨a, cap, rfl, by simp, Or.inl rfl⟩, Below.refl _ _⟩
  rcases h.2 with ⟨e, h0⟩ | ⟨g, cap, cur, e, hng, hg, hc, _, hs, ht⟩
  · exact key none 0 e h0
  · subst e
    have hH : Holds w g (intV L ++ cur.toList.drop L.length) 3 := by
      unfold Holds
      rw [hg]
      congr 2
      rw [← ht, Nat.mul_one, List.take_append_drop, Array.toArray_toList]
    generalize cur.toList.drop L.length = tl at hH
    have toS : ∀ (w : World) (zs : List Int), Holds w g (intV zs ++ tl) 3 → Go.Sort.Holds (Value.int .i64) w g 0 zs.toArray := fun w zs hz j hj => by
      have hj' : j < zs.length := by simpa using hj
      refine ⟨?_, hz.frozen _⟩
      rw [Nat.zero_add, hz.cell, List.getElem?_append_left (by rw [intV_len]; exact hj'), intV_at _ _ hj']
      simp [List.getD_eq_getElem?_getD, hj']
    refine (Tryz.slices_Sort_int g 0 cap L w (toS w L hH) hH.lt (by omega)).mono ?_
    rintro e w' ⟨rfl, q, os, rfl⟩
    have hp := put_row (Value.int .i64) hH (sortL L).toArray (by simp [sortL_len, intV_len]) q os
    refine ⟨rfl, fun W hW => ?_⟩
    have hW1 : Holds W g (intV (sortL L) ++ tl) 3 := by rw [hW]; exact hp.1
    have hW2 : Upd g w W := by rw [hW]; exact hp.2
    clear hp hW
    have hcap : (sortL L).length ≤ cap := by rw [sortL_len]; exact hc
    have hcm := Tryz.slices_Compact_int g 0 cap (sortL L) W (toS W _ hW1) (by rw [sortL_len]; omega) hcap
    rw [sortL_len] at hcm
    refine hcm.mono ?_
    rintro e w' ⟨rfl, q, rfl⟩
    have hcl : (Lib.compact (sortL L)).length ≤ L.length := by
      have : (Lib.compact (sortL L)).length ≤ (sortL L).length := by
        unfold Lib.compact Lib.compactUpTo
        rw [List.length_map]
        exact Nat.le_trans (List.length_filter_le ..) (by simp)
      rwa [sortL_len] at this
    have hp := put_row (Value.int .i64) hW1 (Lib.compact (sortL L) ++ List.replicate (L.length - (Lib.compact (sortL L)).length) 0).toArray (by simp [intV_len, sortL_len]; omega) q #[]
    rw [Go.Sort.grow_empty] at hp
    refine ⟨_, rfl, ⟨_, cap, rfl, by omega, Or.inr ⟨g, 0, rfl, hp.1.lt, fun j hj => ?_⟩⟩, (hW2.trans hp.2).below hng (by have := hH.lt; omega)⟩
    rw [Nat.zero_add, hp.1.cell]
    rw [List.map_append, List.append_assoc, List.getElem?_append_left (by simpa using hj)]
    simp [List.getD_eq_getElem?_getD, hj]
set_option maxHeartbeats 1000000 in
theorem risen_any (B : Nat) (v : Value) (ms : List Int) (w : World) (hv : Ints B w v ms) (hB : B ≤ w.heap.size) (hl : ms.length ≤ 1099511627776) :
    Calls Tryz.prog 67 #[v] w fun e w' => ∃ u, e = .returned u ∧ Ints w'.heap.size w' u (risenL ms) ∧ Below w.heap.size w w' := by
  obtain ⟨n, hn⟩ : ∃ n, w.heap.size = n := ⟨_, rfl⟩
  rw [hn] at hB ⊢
  obtain ⟨i3, f3, hz3, hs3, hb3⟩ := inf3
  have F3 : Hid (Tryz.prog.info? 3 = some i3) := f3
  obtain ⟨a, cap, rfl⟩ := hv.len
  obtain ⟨ln, hln⟩ : ∃ ln, ms.length = ln := ⟨_, rfl⟩
  rw [hln] at hl hv ⊢
  have HL : Hid (ms.length = ln) := hln
  have HV : Hid (∀ W, Below n w W → Ints B W (.slice a ln cap) ms) := fun W hW => hv.below (hW.mono hB)
  clear hv hln f3
  go_enter Tryz.func67, Tryz.ntmps67
  go_wp2
  go_loopw [3, 8] (fun v c wr => ∃ k : Nat, k ≤ ln ∧ c = .int .i64 (k : Int) ∧ wr.ownsRow n 3 1 v (posL (ms.take k)).length (intV (posL (ms.take k))) ∧ Below n w wr) (fun _ c _ => ln - (intOf c).toNat)
  case atStart => exact ⟨0, by omega, rfl, World.ownsRow_nil _ _ _ _, Below.refl _ _⟩
  case round =>
  obtain ⟨k, hk, rfl, hown, hBe⟩ := hrel
  by_cases hlt : k < ln
  · obtain ⟨x, hx⟩ : ∃ x, ms[k]? = some x := ⟨_, List.getElem?_eq_getElem (by rw [HL.out]; exact hlt)⟩
    obtain ⟨g, o, rfl, hcell⟩ := (HV.out wr hBe).cell k x hx
    have hstep := posL_take ms k x hx
    have hlen : (posL (ms.take k)).length ≤ k := by have := posL_len (ms.take k); rw [List.length_take] at this; omega
    generalize posL (ms.take k) = M at hown hstep hlen
    obtain ⟨at_, ct, rfl⟩ := row_slice hown
    have i0 : (0 : Int) ≤ (k : Int) := by omega
    have i1 : (k : Int) < (ln : Int) := by omega
    have hC1 := somebody_any x wr
    have HOW : Hid (wr.ownsRow n 3 1 (.slice at_ M.length ct) M.length (intV M)) := hown
    have HBe : Hid (Below n w wr) := hBe
    have hsz : n ≤ wr.heap.size := by have := hBe.size; omega
    clear hown hBe hx
    by_cases hcx : 0 < x
    · rw [if_pos hcx] at hstep
      rw [decide_eq_true hcx] at hC1
      have hC2 : Hid (Calls Tryz.prog 95 #[.int .i64 x] wr fun e w' => e = .returned (.bool true) ∧ w' = wr) := hC1
      have hst : Hid (posL (ms.take (k + 1)) = M ++ [x]) := hstep
      have HNC : Hid (∀ (j : Nat) (u : Value), [Value.int .i64 x][j]? = some u → (wr.alloc (.cells #[.int .i64 x] 3)).cell? (Addr.add ⟨wr.heap.size, 0, none⟩ j) = some u) := fun j u hu => World.news_of_block (heap_alloc_new wr _) j u hu
      clear hC1 hstep hcx
      go_wp2_with (first
        | (go_at_call 95; refine hC2.out.mono ?_; rintro e w2 ⟨rfl, rfl⟩)
        | (at_builtin; refine wpList_append_src rfl (.tmp 14) (.tmp 16) 30 rfl n 3 i3 _ 1 8 und24 F3.out hz3 hs3 hb3 (by rfl) (by omega) _ _ _ (HOW.out.alloc _) rfl [.int .i64 x] _ 1 1 rfl (by rfl) (fun _ => ⟨_, rfl, fun j u hu => HNC.out j u hu⟩) (fun u hu => by simp at hu; subst hu; rfl) (by unfold maxLen; omega) (by omega) (by simp; omega) ?_; intro v3 w3 own3 gr3 _))
      have e3 : intV M ++ [.int .i64 x] = intV (posL (ms.take (k + 1))) := by rw [hst.out]; simp [intV]
      have l3 : M.length + 1 = (posL (ms.take (k + 1))).length := by rw [hst.out]; simp
      rw [e3, l3] at own3
      exact ⟨⟨k + 1, by omega, by go_num, own3, (HBe.out.trans ((Below.refl _ _).alloc hsz _)).grown gr3 (by simp; omega) (fun j e => own3_base HOW.out j e)⟩, by simp [intOf]; omega⟩
    · rw [if_neg hcx, List.append_nil] at hstep
      rw [decide_eq_false hcx] at hC1
      have hC2 : Hid (Calls Tryz.prog 95 #[.int .i64 x] wr fun e w' => e = .returned (.bool false) ∧ w' = wr) := hC1
      have hst : Hid (posL (ms.take (k + 1)) = M) := hstep
      clear hC1 hstep hcx
      go_wp2_with (go_at_call 95; refine hC2.out.mono ?_; rintro e w2 ⟨rfl, rfl⟩)
      exact ⟨⟨k + 1, by omega, by go_num, by rw [hst.out]; exact HOW.out, HBe.out⟩, by simp [intOf]; omega⟩
  · have e8 : k = ln := by omega
    rw [e8, ← HL.out, List.take_length] at hown
    have i1 : ¬ (k : Int) < (ln : Int) := by omega
    have hml : (posL ms).length ≤ 1099511627776 := by have := posL_len ms; rw [HL.out] at this; omega
    have hSC := srt_cmp hown hml
    have HR : Hid (Lib.compact (sortL (posL ms)) = risenL ms) := rfl
    rw [HR.out] at hSC
    obtain ⟨at_, ct, rfl⟩ := row_slice hown
    generalize (posL ms).length = pl at hSC hown ⊢
    have HSC : Hid (Calls Tryz.prog 96 #[.slice at_ pl ct] wr fun e w' => e = .returned (.tuple #[]) ∧ (∀ W, W = w' → Calls Tryz.prog 97 #[.slice at_ pl ct] W fun e w' => ∃ u, e = .returned u ∧ Ints w'.heap.size w' u (risenL ms) ∧ Below n wr w')) := hSC
    have HBe : Hid (Below n w wr) := hBe
    clear hown hBe hlt e8 hSC hml
    go_wp2_with (first
      | (go_at_call 96; refine HSC.out.mono ?_; rintro e w2 ⟨rfl, hC⟩; have HC : Hid (Calls Tryz.prog 97 #[.slice at_ pl ct] w2 fun e w' => ∃ u, e = .returned u ∧ Ints w'.heap.size w' u (risenL ms) ∧ Below n wr w') := hC w2 rfl; clear hC)
      | (go_at_call 97; refine HC.out.mono ?_; rintro e w3 ⟨u, rfl, hI, hb⟩))
    go_ret
    exact ⟨_, rfl, hI, HBe.out.trans hb⟩
end Go.Proofs.YthmnjebmnocoiaaGreat

/- What package ring's Claim answers. -/
namespace Go.Proofs.YthmnjebmnocoiaaGreat
open Go.RowKit

theorem compact_upto (d : Array Int) (hs : ∀ i j, i ≤ j → j < d.size → d[i]! ≤ d[j]!) : ∀ m, m ≤ d.size → (Lib.compactUpTo d m).Pairwise (· < ·) ∧ (∀ x, x ∈ Lib.compactUpTo d m ↔ ∃ j, j < m ∧ d[j]! = x)
  | 0, _ => ⟨by simp [Lib.compactUpTo], by simp [Lib.compactUpTo]⟩
  | m + 1, hm => by
    obtain ⟨h1, h2⟩ := compact_upto d hs m (by omega)
    rw [Lib.compactUpTo_succ]
    by_cases hk : Lib.keeps d m = true
    · rw [if_pos hk]
      refine ⟨?_, fun x => ?_⟩
      · rw [List.pairwise_append]
        refine ⟨h1, by simp, fun a ha b hb => ?_⟩
        simp at hb
        subst hb
        obtain ⟨j, hj, rfl⟩ := (h2 a).1 ha
        have hne : d[m]! ≠ d[m - 1]! := by
          simp only [Lib.keeps, decide_eq_true_eq] at hk
          rcases hk with h0 | h0
          · omega
          · exact h0
        have q1 := hs j (m - 1) (by omega) (by omega)
        have q2 := hs (m - 1) m (by omega) (by omega)
        omega
      · rw [List.mem_append, h2]
        constructor
        · rintro (⟨j, hj, e⟩ | q)
          · exact ⟨j, by omega, e⟩
          · simp at q; exact ⟨m, by omega, q.symm⟩
        · rintro ⟨j, hj, e⟩
          by_cases hjm : j = m
          · subst hjm; right; simp [← e]
          · left; exact ⟨j, by omega, e⟩
    · rw [if_neg hk, List.append_nil]
      refine ⟨h1, fun x => ?_⟩
      rw [h2]
      constructor
      · rintro ⟨j, hj, e⟩; exact ⟨j, by omega, e⟩
      · rintro ⟨j, hj, e⟩
        by_cases hjm : j = m
        · subst hjm
          have : j ≠ 0 ∧ d[j]! = d[j - 1]! := by
            simp only [Lib.keeps, decide_eq_true_eq] at hk
            refine ⟨fun q => hk (Or.inl q), ?_⟩
            by_cases q : d[j]! = d[j - 1]!
            · exact q
            · exact absurd (Or.inr q) hk
          exact ⟨j - 1, by omega, by rw [← this.2]; exact e⟩
        · exact ⟨j, by omega, e⟩
theorem sortL_rising (l : List Int) : (sortL l).Pairwise (· ≤ ·) := by
  have := List.pairwise_mergeSort (le := fun x y : Int => decide (x ≤ y)) (by intro a b c; simp; omega) (by intro a b; simp; omega) l
  exact this.imp (by simp)
theorem risen_facts (ms : List Int) : (risenL ms).Pairwise (· < ·) ∧ ∀ x, x ∈ risenL ms ↔ (x ∈ ms ∧ 0 < x) := by
  have hs : ∀ i j, i ≤ j → j < (sortL (posL ms)).toArray.size → (sortL (posL ms)).toArray[i]! ≤ (sortL (posL ms)).toArray[j]! := fun i j hij hj => by
    have hj' : j < (sortL (posL ms)).length := by simpa using hj
    rcases Nat.lt_or_eq_of_le hij with g | g
    · have := List.pairwise_iff_getElem.1 (sortL_rising (posL ms)) i j (by omega) hj' g
      simpa [hj', show i < (sortL (posL ms)).length by omega] using this
    · subst g; exact Int.le_refl _
  obtain ⟨h1, h2⟩ := compact_upto (sortL (posL ms)).toArray hs (sortL (posL ms)).length (by simp)
  refine ⟨h1, fun x => ?_⟩
  have hm : x ∈ sortL (posL ms) ↔ (x ∈ ms ∧ 0 < x) := by
    unfold sortL
    rw [(List.mergeSort_perm _ _).mem_iff]
    simp [posL]
  rw [← hm]
  refine (h2 x).trans ?_
  constructor
  · rintro ⟨j, hj, e⟩
    rw [← e]
    simp [hj]
  · intro hx
    obtain ⟨j, hj, e⟩ := List.getElem_of_mem hx
    exact ⟨j, hj, by simp [hj, e]⟩
theorem rise_ext : ∀ (l m : List Int), l.Pairwise (· < ·) → m.Pairwise (· < ·) → (∀ x, x ∈ l ↔ x ∈ m) → l = m
  | [], [], _, _, _ => rfl
  | [], y :: m, _, _, h => by have := (h y).2 (by simp); simp at this
  | x :: l, [], _, _, h => by have := (h x).1 (by simp); simp at this
  | x :: l, y :: m, hl, hm, h => by
    obtain ⟨a1, a2⟩ := List.pairwise_cons.1 hl
    obtain ⟨b1, b2⟩ := List.pairwise_cons.1 hm
    have e : x = y := by
      rcases List.mem_cons.1 ((h x).1 (by simp)) with q | q
      · exact q
      · rcases List.mem_cons.1 ((h y).2 (by simp)) with r | r
        · exact r.symm
        · have := b1 x q; have := a1 y r; omega
    subst e
    congr 1
    refine rise_ext l m a2 b2 fun z => ?_
    constructor
    · intro hz
      rcases List.mem_cons.1 ((h z).1 (by simp [hz])) with q | q
      · subst q; have := a1 z hz; omega
      · exact q
    · intro hz
      rcases List.mem_cons.1 ((h z).2 (by simp [hz])) with q | q
      · subst q; have := b1 z hz; omega
      · exact q
theorem quotaI_le (n r : Nat) (hn : 0 < n) : quotaI n r ≤ 8 := by
  unfold quotaI
  by_cases h1 : n = 1
  · subst h1; simp
  · have h2 : 8 / (n : Int) ≤ 4 := by
      exact Int.ediv_le_of_le_mul (by omega) (by omega)
    split <;> omega
theorem shareI_R8 (t : List Int) : R8 (shareI t) := fun i => by
  rw [List.getD_eq_getElem?_getD]
  rcases Nat.lt_or_ge i t.length with g | g
  · simp only [shareI, List.getElem?_map, List.getElem?_range g, Option.map_some, Option.getD_some]
    exact ⟨quotaI_nonneg _ _, quotaI_le _ _ (by omega)⟩
  · rw [List.getElem?_eq_none (by rw [shareI_len]; omega)]; simp
def claimL (o ms : List Int) : List Int := if (risenL ms).length = 0 then List.replicate 8 0 else outV (risenL ms) (claimI (risenL ms).length (o.map (findI (risenL ms))))
theorem findI_in {M : List Int} (hM : M.Pairwise (· < ·)) (o : List Int) : ∀ i, some i ∈ o.map (findI M) → i < M.length := fun i hi => by
  obtain ⟨x, _, hx⟩ := List.mem_map.1 hi
  exact (findI_some hM hx).1
theorem claim_mid (M o : List Int) (hM : M.Pairwise (· < ·)) (ho : o.length = 8) (hn : 0 < M.length) : (keepI (o.map (findI M)) (shareI (tallyI M.length (o.map (findI M))))).1.length = 8 ∧ (∀ i, some i ∈ (keepI (o.map (findI M)) (shareI (tallyI M.length (o.map (findI M))))).1 → i < M.length) ∧ FillOk M.length ([], (keepI (o.map (findI M)) (shareI (tallyI M.length (o.map (findI M))))).2, 0) (keepI (o.map (findI M)) (shareI (tallyI M.length (o.map (findI M))))).1 := by
  have hsl : (shareI (tallyI M.length (o.map (findI M)))).length = M.length := by rw [shareI_len, tallyI_len]
  have hss : (shareI (tallyI M.length (o.map (findI M)))).sum = 8 := shareI_sum _ (fun e => by
    have h1 := tallyI_len M.length (o.map (findI M))
    have h2 : (tallyI M.length (o.map (findI M))).length = 0 := by rw [e]; rfl
    omega)
  obtain ⟨a1, a2, a3, a4, a5⟩ := keepI_facts M.length (o.map (findI M)) ([], shareI (tallyI M.length (o.map (findI M)))) (findI_in hM o) hsl (shareI_R8 _) (fun i hi => by simp at hi)
  refine ⟨by unfold keepI; rw [a1]; simp [ho], a4, ⟨a2, a3, fun j hj => by simp at hj, ?_⟩⟩
  show (keepI _ _).2.sum = _
  unfold keepI
  have hl8 : (o.map (findI M)).length = 8 := by simp [ho]
  rw [hl8] at a5
  dsimp only at a5
  rw [hss] at a5
  simp only [List.count_nil] at a5
  omega
set_option maxHeartbeats 2000000 in
theorem claim_any (B : Nat) (o : List Int) (ho : o.length = 8) (v : Value) (ms : List Int) (w : World) (hv : Ints B w v ms) (hB : B ≤ w.heap.size) (hl : ms.length ≤ 1099511627776) (h20 : (risenL ms).length < 20) :
    Calls Tryz.prog 42 #[.agg (intV o).toArray, v] w fun e w' => e = .returned (.agg (intV (claimL o ms)).toArray) ∧ Below w.heap.size w w' := by
  obtain ⟨N, hN⟩ : ∃ N, w.heap.size = N := ⟨_, rfl⟩
  rw [hN] at hB ⊢
  obtain ⟨hM, hmem⟩ := risen_facts ms
  have HRi : Hid (∀ W, Below N w W → Calls Tryz.prog 67 #[v] W fun e w' => ∃ u, e = .returned u ∧ Ints w'.heap.size w' u (risenL ms) ∧ Below W.heap.size W w') := fun W hW => risen_any B v ms W (hv.below (hW.mono hB)) (by have := hW.size; omega) hl
  have HO : Hid (o.length = 8) := ho
  have hpos : ∀ x ∈ risenL ms, 0 < x := fun x hx => ((hmem x).1 hx).2
  have HCl : Hid (claimL o ms = if (risenL ms).length = 0 then List.replicate 8 0 else outV (risenL ms) (claimI (risenL ms).length (o.map (findI (risenL ms))))) := rfl
  generalize risenL ms = M at hM hpos HRi HCl h20
  clear hmem hv hl
  by_cases h0 : M.length = 0
  · have hcl : Hid (claimL o ms = List.replicate 8 0) := by
      show _ = _
      rw [HCl.out, if_pos h0]
    go_enter Tryz.func42, Tryz.ntmps42
    go_wp2_with (first
      | (refine wpList_box_new 2 rfl rfl 43 _ rfl N hN _ rfl ?_; intro w1 h1)
      | (refine wpList_alloc_new 4 rfl rfl 43 rfl (N + 1) h1.size _ zero23 ?_; intro w2 h2)
      | (go_at_call 67; refine (HRi.out w2 (h1.below.trans (h2.below.mono (by omega)))).mono ?_; rintro e w3 ⟨u, rfl, I3, b3⟩; obtain ⟨ua, uc, rfl⟩ := I3.len; rw [h0] at I3 ⊢; have HR3 := h2.holds.below b3 (by rw [h2.size]; omega))
      | (refine wpList_store_all rfl 43 (.tmp 4) (.tmp 12) rfl (N + 1) rfl (intV (List.replicate 8 0)) rfl 43 _ HR3 (by rw [siz23]; rfl) rfl (intV_one _) ?_; intro w5 h5))
    refine bodyPost_ret (results_cell_row (p := 4) (by kernel_rfl) _ w5 (N + 1) 43 (intV (List.replicate 8 0)).toArray (0, 0) _ rfl h5.holds und23 rfl (by rw [siz23]; rfl)) rfl ⟨by rw [hcl.out], ?_⟩
    exact ((h1.below.trans (h2.below.mono (by omega))).trans (b3.mono (by rw [h2.size]; omega))).trans (h5.below (by omega))
  · obtain ⟨m, hm⟩ : ∃ m, M.length = m + 1 := ⟨M.length - 1, by omega⟩
    have HTa : Hid (∀ W u, Ints W.heap.size W u M → Calls Tryz.prog 69 #[.agg (intV o).toArray, u] W fun e w' => ∃ g, e = .returned (.slice (some ⟨g, 0, none⟩) M.length M.length) ∧ W.heap.size ≤ g ∧ Holds w' g (intV (tallyI M.length (o.map (findI M)))) 3 ∧ Below W.heap.size W w') := fun W u hu => tally_any _ o ho u M hM (by omega) W hu (Nat.le_refl _)
    have HSh : Hid (∀ W g, Holds W g (intV (tallyI M.length (o.map (findI M)))) 3 → Calls Tryz.prog 68 #[.slice (some ⟨g, 0, none⟩) (m + 1) (m + 1)] W fun e w' => ∃ g', e = .returned (.slice (some ⟨g', 0, none⟩) (m + 1) (m + 1)) ∧ W.heap.size ≤ g' ∧ Holds w' g' (intV (shareI (tallyI M.length (o.map (findI M))))) 3 ∧ Below W.heap.size W w') := fun W g hg => shares_any m (by omega) g _ W (by rw [tallyI_len]; exact hm) (fun k => by have h := tallyI_le M.length (o.map (findI M)) k; rw [List.length_map, ho] at h; exact h) hg
    obtain ⟨c1, c2, c3⟩ := claim_mid M o hM ho (by omega)
    have hsl : (shareI (tallyI M.length (o.map (findI M)))).length = M.length := by rw [shareI_len, tallyI_len]
    have HKe : Hid (∀ C W u g, C ≤ W.heap.size → C ≤ g → Ints C W u M → Holds W g (intV (shareI (tallyI M.length (o.map (findI M))))) 3 → Calls Tryz.prog 71 #[.agg (intV o).toArray, u, .slice (some ⟨g, 0, none⟩) M.length M.length] W fun e w' => e = .returned (.agg (intV (keptV M (keepI (o.map (findI M)) (shareI (tallyI M.length (o.map (findI M))))).1)).toArray) ∧ Holds w' g (intV (keepI (o.map (findI M)) (shareI (tallyI M.length (o.map (findI M))))).2) 3 ∧ Upd g W w') := fun C W u g h1 h2 hu hg => keep_any C o ho u M hM (by omega) g _ hsl (shareI_R8 _) W hu h1 h2 hg
    have HFi : Hid (∀ C W u g, C ≤ W.heap.size → C ≤ g → Ints C W u M → Holds W g (intV (keepI (o.map (findI M)) (shareI (tallyI M.length (o.map (findI M))))).2) 3 → Calls Tryz.prog 70 #[.agg (intV (keptV M (keepI (o.map (findI M)) (shareI (tallyI M.length (o.map (findI M))))).1)).toArray, u, .slice (some ⟨g, 0, none⟩) M.length M.length] W fun e w' => e = .returned (.agg (intV (outV M (claimI M.length (o.map (findI M))))).toArray) ∧ Upd g W w') := fun C W u g h1 h2 hu hg => fill_any C u M hpos (by omega) g _ c1 c2 _ c3 W hu h1 h2 hg
    have hcl : Hid (claimL o ms = outV M (claimI M.length (o.map (findI M)))) := by
      show _ = _
      rw [HCl.out, if_neg h0]
    have hol : Hid ((outV M (claimI M.length (o.map (findI M)))).length = 8) := by
      show _ = _
      rw [outV_len]
      show (fillI _ _).length = 8
      unfold fillI
      rw [fold_len, c1]; rfl
    rw [hm] at HTa HSh HKe HFi hcl hol
    generalize outV M (claimI (m + 1) (o.map (findI M))) = RES at HFi hcl hol
    generalize keepI (o.map (findI M)) (shareI (tallyI (m + 1) (o.map (findI M)))) = KK at HKe HFi
    generalize shareI (tallyI (m + 1) (o.map (findI M))) = SH at HSh HKe
    generalize tallyI (m + 1) (o.map (findI M)) = TL at HTa HSh
    generalize hnn : m + 1 = n at *
    have hn0 : ¬ (n : Int) = 0 := by omega
    clear c1 c2 c3 hsl hM hpos HCl ho h20
    have HMl : Hid (M.length = n) := hm
    clear hm h0 hnn
    go_enter Tryz.func42, Tryz.ntmps42
    go_wp2_with (first
      | (refine wpList_box_new 2 rfl rfl 43 _ rfl N hN _ rfl ?_; intro w1 h1)
      | (refine wpList_alloc_new 4 rfl rfl 43 rfl (N + 1) h1.size _ zero23 ?_; intro w2 h2; have H12 := h1.holds.below h2.below (by omega))
      | (go_at_call 67; refine (HRi.out w2 (h1.below.trans (h2.below.mono (by omega)))).mono ?_; rintro e w3 ⟨u, rfl, I3, b3⟩; obtain ⟨ua, uc, rfl⟩ := I3.len; rw [HMl.out] at I3 ⊢; have HR3 := h2.holds.below b3 (by rw [h2.size]; omega); have HO3 := H12.below b3 (by rw [h2.size]; omega); have hz3 : N + 2 ≤ w3.heap.size := by (have := b3.size; rw [h2.size] at this; exact this))
      | (refine wpList_load_all rfl 43 _ rfl _ rfl 43 (intV o) 8 3 HO3 und23 (by rw [siz23, intV_len, HO.out]) ?_)
      | (go_at_call 69; refine (HTa.out w3 _ I3).mono ?_; rintro e w4 ⟨g4, rfl, hg4, T4, b4⟩)
      | (go_at_call 68; refine (HSh.out w4 g4 T4).mono ?_; rintro e w5 ⟨g5, rfl, hg5, S5, b5⟩; have b35 := b4.trans (b5.mono (by have := b4.size; omega)); have HO5 := HO3.below b35 (by omega); have HR5 := HR3.below b35 (by omega); have I5 := I3.below b35; have hz5 : w3.heap.size ≤ w5.heap.size := b35.size)
      | (refine wpList_load_all rfl 43 _ rfl _ rfl 43 (intV o) 8 3 HO5 und23 (by rw [siz23, intV_len, HO.out]) ?_)
      | (go_at_call 71; refine (HKe.out w3.heap.size w5 _ g5 hz5 (by have := b4.size; omega) I5 S5).mono ?_; rintro e w6 ⟨rfl, K6, U6⟩; have I6 := I5.below (U6.below (B := w3.heap.size) (by have := b4.size; omega) hz5); have hz6 : w3.heap.size ≤ w6.heap.size := Nat.le_trans hz5 U6.size)
      | (go_at_call 70; refine (HFi.out w3.heap.size w6 _ g5 hz6 (by have := b4.size; omega) I6 K6).mono ?_; rintro e w7 ⟨rfl, U7⟩; have U57 := U6.trans U7; have HR7 := HR5.upd U57 (by have := b4.size; omega))
      | (refine wpList_store_all rfl 43 (.tmp 4) (.tmp 23) rfl (N + 1) rfl (intV RES) rfl 43 _ HR7 (by rw [siz23, intV_len, hol.out]) (by rw [intV_len, intV_len, hol.out]; rfl) (intV_one _) ?_; intro w8 h8))
    refine bodyPost_ret (results_cell_row (p := 4) (by kernel_rfl) _ w8 (N + 1) 43 (intV RES).toArray (0, 0) _ rfl h8.holds und23 rfl (by rw [siz23, List.size_toArray, intV_len, hol.out])) rfl ⟨by rw [hcl.out], ?_⟩
    have bb := (h1.below.trans (h2.below.mono (by omega))).trans (b3.mono (by rw [h2.size]; omega))
    exact ((bb.trans (b35.mono (by omega))).trans (U57.below (by have := b4.size; omega) (by omega))).trans (h8.below (by omega))
end Go.Proofs.YthmnjebmnocoiaaGreat
