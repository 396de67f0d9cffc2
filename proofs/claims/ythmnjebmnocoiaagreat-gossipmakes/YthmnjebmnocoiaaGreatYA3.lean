/- RgClP, RgOrd, RgTally, RgSort, RgShare. -/
import Derived.Test.YthmnjebmnocoiaaGreatProg
import Derived.Sort.LotA
import Derived.Shelf.SlSortCmp.Insertion
import Derived.Test.YthmnjebmnocoiaaGreatYA2
/- The ring's claiming, in plain words, by the members' places. -/
namespace Go.Proofs.YthmnjebmnocoiaaGreat

def findI (M : List Int) (x : Int) : Option Nat := if M.contains x then some (M.countP (· < x)) else none
def tallyI (n : Nat) (oi : List (Option Nat)) : List Int := (List.range n).map fun i => ((oi.count (some i) : Nat) : Int)
def aheadB (t : List Int) (i j : Nat) : Bool := decide (t.getD j 0 < t.getD i 0) || (decide (t.getD j 0 = t.getD i 0) && decide (i < j))
def rankI (t : List Int) (i : Nat) : Nat := (List.range t.length).countP fun j => aheadB t j i
def quotaI (n r : Nat) : Int := 8 / (n : Int) + if r < 8 % n then 1 else 0
def shareI (t : List Int) : List Int := (List.range t.length).map fun i => quotaI t.length (rankI t i)
def keepS (s : List (Option Nat) × List Int) (x : Option Nat) : List (Option Nat) × List Int :=
  match x with
  | some i => if 0 < s.2.getD i 0 then (s.1 ++ [some i], s.2.set i (s.2.getD i 0 - 1)) else (s.1 ++ [none], s.2)
  | none => (s.1 ++ [none], s.2)
def keepI (oi : List (Option Nat)) (room : List Int) : List (Option Nat) × List Int := oi.foldl keepS ([], room)
def skipI (room : List Int) (next : Nat) : Nat := next + ((room.drop next).takeWhile (· == 0)).length
def fillS (s : List Nat × List Int × Nat) (x : Option Nat) : List Nat × List Int × Nat :=
  match x with
  | some i => (s.1 ++ [i], s.2)
  | none => (s.1 ++ [skipI s.2.1 s.2.2], s.2.1.set (skipI s.2.1 s.2.2) (s.2.1.getD (skipI s.2.1 s.2.2) 0 - 1), skipI s.2.1 s.2.2)
def fillI (kept : List (Option Nat)) (room : List Int) : List Nat := (kept.foldl fillS ([], room, 0)).1
def claimI (n : Nat) (oi : List (Option Nat)) : List Nat :=
  let k := keepI oi (shareI (tallyI n oi))
  fillI k.1 k.2

theorem aheadB_irrefl (t : List Int) (i : Nat) : aheadB t i i = false := by simp [aheadB]
theorem aheadB_iff (t : List Int) (i j : Nat) : aheadB t i j = true ↔ (t.getD j 0 < t.getD i 0 ∨ (t.getD j 0 = t.getD i 0 ∧ i < j)) := by simp [aheadB]
theorem aheadB_not (t : List Int) (i j : Nat) : aheadB t i j = false ↔ ¬ (t.getD j 0 < t.getD i 0 ∨ (t.getD j 0 = t.getD i 0 ∧ i < j)) := by
  rw [← aheadB_iff]; simp
theorem aheadB_trans (t : List Int) (i j k : Nat) (h : aheadB t i j = true) (h' : aheadB t j k = true) : aheadB t i k = true := by
  rw [aheadB_iff] at *; omega
theorem aheadB_asymm (t : List Int) (i j : Nat) (h : aheadB t i j = true) : aheadB t j i = false := by
  rw [aheadB_not]; rw [aheadB_iff] at h; omega
theorem aheadB_total (t : List Int) (i j : Nat) (h : i ≠ j) (h' : aheadB t i j = false) : aheadB t j i = true := by
  rw [aheadB_iff]; rw [aheadB_not] at h'; omega

structure IsOrder (t : List Int) (r : List Nat) : Prop where
  perm : r.Perm (List.range t.length)
  rising : r.Pairwise fun i j => aheadB t i j = true
theorem count_ahead (t : List Int) : ∀ (r : List Nat), (r.Pairwise fun i j => aheadB t i j = true) → ∀ (k : Nat) (x : Nat), r[k]? = some x → r.countP (fun j => aheadB t j x) = k
  | [], _, k, x, h => by simp at h
  | y :: r, hp, k, x, h => by
    obtain ⟨h1, h2⟩ := List.pairwise_cons.1 hp
    cases k with
    | zero =>
      simp at h; subst h
      rw [List.countP_cons_of_neg (by simp [aheadB_irrefl]), List.countP_eq_zero]
      intro a ha
      rw [aheadB_asymm t y a (h1 a ha)]; simp
    | succ k =>
      have hx : r[k]? = some x := by simpa using h
      rw [List.countP_cons_of_pos (p := fun j => aheadB t j x) (h1 x (List.mem_of_getElem? hx)), count_ahead t r h2 k x hx]
theorem IsOrder.rank {t : List Int} {r : List Nat} (h : IsOrder t r) (k x : Nat) (hx : r[k]? = some x) : rankI t x = k := by
  unfold rankI
  rw [← h.perm.countP_eq, count_ahead t r h.rising k x hx]
theorem IsOrder.ranks {t : List Int} {r : List Nat} (h : IsOrder t r) : r.map (rankI t) = List.range t.length := by
  have hl : r.length = t.length := by simpa using h.perm.length_eq
  apply List.ext_getElem?
  intro k
  rcases Nat.lt_or_ge k t.length with g | g
  · have hk : r[k]? = some r[k] := List.getElem?_eq_getElem (by omega)
    rw [List.getElem?_map, hk, List.getElem?_range g, Option.map_some, h.rank k _ hk]
  · rw [List.getElem?_eq_none (by simp; omega), List.getElem?_eq_none (by simp; omega)]
theorem order_exists (t : List Int) : ∃ r, IsOrder t r := by
  let le : Nat → Nat → Bool := fun i j => !aheadB t j i
  have htr : ∀ a b c : Nat, le a b = true → le b c = true → le a c = true := fun a b c h1 h2 => by
    simp only [le, Bool.not_eq_true'] at *
    rw [aheadB_not] at *; omega
  have hto : ∀ a b : Nat, (le a b || le b a) = true := fun a b => by
    simp only [le, Bool.or_eq_true, Bool.not_eq_true']
    by_cases h : aheadB t b a = true
    · exact Or.inr (aheadB_asymm t b a h)
    · exact Or.inl (by simpa using h)
  refine ⟨(List.range t.length).mergeSort le, List.mergeSort_perm _ _, ?_⟩
  have hs := List.pairwise_mergeSort htr hto (List.range t.length)
  have hn : ((List.range t.length).mergeSort le).Nodup := (List.mergeSort_perm _ _).nodup_iff.2 List.nodup_range
  refine (hs.and hn).imp ?_
  rintro a b ⟨h1, h2⟩
  simp only [le, Bool.not_eq_true'] at h1
  exact aheadB_total t b a (fun e => h2 e.symm) h1
theorem sum_quota (n : Nat) (hn : 0 < n) : ((List.range n).map (quotaI n)).sum = 8 := by
  have h : ∀ k, ((List.range k).map (quotaI n)).sum = k * (8 / (n : Int)) + (min k (8 % n) : Nat) := by
    intro k
    induction k with
    | zero => simp
    | succ k ih =>
      rw [List.range_succ, List.map_append, List.sum_append, ih]
      simp only [List.map_cons, List.map_nil, List.sum_cons, List.sum_nil, quotaI]
      rw [show ((k + 1 : Nat) : Int) * (8 / (n : Int)) = (k : Int) * (8 / (n : Int)) + 8 / (n : Int) by push_cast; rw [Int.add_mul, Int.one_mul]]
      split <;> omega
  rw [h n, Nat.min_eq_right (Nat.le_of_lt (Nat.mod_lt _ hn))]
  have := Int.mul_ediv_add_emod 8 (n : Int)
  have e : ((8 % n : Nat) : Int) = 8 % (n : Int) := by simp
  rw [e]; exact this
theorem perm_sum {l m : List Int} (h : l.Perm m) : l.sum = m.sum := by
  induction h with
  | nil => rfl
  | cons x _ ih => simp [ih]
  | swap x y l => simp only [List.sum_cons]; omega
  | trans _ _ h1 h2 => rw [h1, h2]
theorem shareI_sum (t : List Int) (ht : t ≠ []) : (shareI t).sum = 8 := by
  obtain ⟨r, hr⟩ := order_exists t
  have h1 : (shareI t).Perm (r.map fun i => quotaI t.length (rankI t i)) := hr.perm.symm.map _
  have h2 : r.map (fun i => quotaI t.length (rankI t i)) = (List.range t.length).map (quotaI t.length) := by
    rw [← hr.ranks, List.map_map]; rfl
  rw [perm_sum h1, h2, sum_quota _ (by cases t with | nil => exact absurd rfl ht | cons a l => simp)]
theorem quotaI_nonneg (n r : Nat) : 0 ≤ quotaI n r := by
  unfold quotaI
  have : 0 ≤ 8 / (n : Int) := Int.ediv_nonneg (by omega) (by omega)
  split <;> omega
theorem shareI_len (t : List Int) : (shareI t).length = t.length := by simp [shareI]
theorem tallyI_len (n : Nat) (oi : List (Option Nat)) : (tallyI n oi).length = n := by simp [tallyI]
end Go.Proofs.YthmnjebmnocoiaaGreat

/- The insertion sort of places is stable: it comes to the order. -/
namespace Go.Proofs.YthmnjebmnocoiaaGreat
open Go.Sort

variable {m : Nat}
def cfI (t : List Int) (i j : Fin (m + 1)) : Int := t.getD j.val 0 - t.getD i.val 0
def lt2 (t : List Int) (i j : Fin (m + 1)) : Bool := aheadB t i.val j.val
theorem lt_same (t : List Int) (x y : Fin (m + 1)) (h : y < x) : ltOf (cfI t) x y = lt2 t x y := by
  have hn : ¬ x.val < y.val := by have : y.val < x.val := h; omega
  unfold ltOf cfI lt2 aheadB
  rw [decide_eq_false hn, Bool.and_false, Bool.or_false]
  congr 1
  apply propext
  omega
theorem insInner_same (t : List Int) : ∀ (j : Nat) (d : Array (Fin (m + 1))), j < d.size → (∀ p, p < j → d[p]! < d[j]!) → insInner (ltOf (cfI t)) 0 j d = insInner (lt2 t) 0 j d
  | 0, _, _, _ => rfl
  | j + 1, d, hs, h => by
    rw [insInner, insInner, lt_same t _ _ (h j (by omega))]
    split
    · apply insInner_same t j
      · rw [size_swp]; omega
      · intro p hp
        rw [swp_other _ _ _ _ (by omega) (by omega), swp_right _ _ _ (by omega)]
        exact h p (by omega)
    · rfl
theorem insInner_from (t : List Int) : ∀ (j : Nat) (d : Array (Fin (m + 1))), j < d.size → (insInner (lt2 t) 0 j d).size = d.size ∧ (∀ q, j < q → (insInner (lt2 t) 0 j d)[q]! = d[q]!) ∧ ∀ p, p ≤ j → ∃ p', p' ≤ j ∧ (insInner (lt2 t) 0 j d)[p]! = d[p']!
  | 0, d, _ => ⟨rfl, fun _ _ => rfl, fun p hp => ⟨p, hp, rfl⟩⟩
  | j + 1, d, hs => by
    rw [insInner]
    split
    · obtain ⟨i1, i2, i3⟩ := insInner_from t j (swp d (j + 1) j) (by rw [size_swp]; omega)
      refine ⟨by rw [i1, size_swp], fun q hq => by rw [i2 q (by omega), swp_other _ _ _ _ (by omega) (by omega)], fun p hp => ?_⟩
      rcases Nat.lt_or_ge j p with g | g
      · have : p = j + 1 := by omega
        subst this
        rw [i2 _ (by omega), swp_left _ _ _ (by omega) (by omega)]
        exact ⟨j, by omega, rfl⟩
      · obtain ⟨p', h1, h2⟩ := i3 p g
        rw [h2]
        by_cases e : p' = j
        · subst e
          rw [swp_right _ _ _ (by omega)]
          exact ⟨_, Nat.le_refl _, rfl⟩
        · rw [swp_other _ _ _ _ (by omega) e]
          exact ⟨p', by omega, rfl⟩
    · exact ⟨rfl, fun _ _ => rfl, fun p hp => ⟨p, hp, rfl⟩⟩
theorem insOuter_same (t : List Int) (b : Nat) : ∀ (n i : Nat) (d : Array (Fin (m + 1))), n = b - i → b ≤ d.size → (∀ p q, p < q → i ≤ q → q < b → d[p]! < d[q]!) → insOuter (ltOf (cfI t)) 0 b i d = insOuter (lt2 t) 0 b i d
  | 0, i, d, hn, _, _ => by
    rw [insOuter_stop _ _ _ _ _ (by omega), insOuter_stop _ _ _ _ _ (by omega)]
  | n + 1, i, d, hn, hb, h => by
    have hlt : i < b := by omega
    rw [insOuter_go _ _ _ _ _ hlt, insOuter_go _ _ _ _ _ hlt, insInner_same t i d (by omega) (fun p hp => h p i hp (Nat.le_refl _) hlt)]
    obtain ⟨i1, i2, i3⟩ := insInner_from t i d (by omega)
    refine insOuter_same t b n (i + 1) _ (by omega) (by rw [i1]; exact hb) fun p q hpq hq hqb => ?_
    rw [i2 q (by omega)]
    rcases Nat.lt_or_ge i p with g | g
    · rw [i2 p g]; exact h p q hpq (by omega) hqb
    · obtain ⟨p', h1, h2⟩ := i3 p g
      rw [h2]
      exact h p' q (by omega) (by omega) hqb
theorem lt2_swo (t : List Int) : SWO (lt2 (m := m) t) where
  irrefl x := aheadB_irrefl t _
  trans x y z h1 h2 := aheadB_trans t _ _ _ h1 h2
  ntrans x y z h1 h2 := by
    unfold lt2 at *
    rw [aheadB_not] at *; omega
def idA (m : Nat) : Array (Fin (m + 1)) := (List.finRange (m + 1)).toArray
theorem idA_size : (idA m).size = m + 1 := by simp [idA]
theorem idA_at (p : Nat) (hp : p < m + 1) : (idA m)[p]! = ⟨p, hp⟩ := by
  simp [idA, hp]
theorem idA_list : (idA m).toList.map Fin.val = List.range (m + 1) := by
  unfold idA
  apply List.ext_getElem
  · simp
  · intro i h1 h2
    simp
def orderA (t : List Int) : Array (Fin (m + 1)) := insertionSort (ltOf (cfI t)) (idA m) 0 (m + 1)
theorem orderA_spec (t : List Int) (ht : t.length = m + 1) : (orderA (m := m) t).size = m + 1 ∧ IsOrder t ((orderA (m := m) t).toList.map Fin.val) := by
  have he : orderA (m := m) t = insertionSort (lt2 t) (idA m) 0 (m + 1) := by
    unfold orderA insertionSort
    refine insOuter_same t (m + 1) _ 1 _ rfl (by rw [idA_size]; omega) fun p q hpq _ hq => ?_
    rw [idA_at p (by omega), idA_at q hq]
    exact hpq
  obtain ⟨⟨h1, _, h3⟩, h4⟩ := insertionSort_holds (lt := lt2 (m := m) t) (lt2_swo t) (idA m) 0 (m + 1) (by omega) (by rw [idA_size]; omega)
  rw [← he] at h1 h3 h4
  rw [idA_size] at h1
  generalize orderA (m := m) t = r at h1 h3 h4
  have hp : r.toList.Perm (idA m).toList := by
    rw [Array.extract_eq_self_of_le (by omega), Array.extract_eq_self_of_le (by rw [idA_size]; omega)] at h3
    exact h3
  have hperm : (r.toList.map Fin.val).Perm (List.range (m + 1)) := by
    rw [← idA_list]; exact hp.map _
  refine ⟨h1, by rw [ht]; exact hperm, ?_⟩
  have hnd : (r.toList.map Fin.val).Nodup := hperm.nodup_iff.2 List.nodup_range
  rw [List.pairwise_iff_getElem]
  intro i j hi hj hij
  have hi' : i < r.size := by simpa using hi
  have hj' : j < r.size := by simpa using hj
  have hne : (r.toList.map Fin.val)[i] ≠ (r.toList.map Fin.val)[j] := fun e => by
    exact (List.pairwise_iff_getElem.1 hnd i j hi hj hij) e
  have hs := h4 i j (by omega) hij (by omega)
  have ei : r[i]! = r[i] := by simp [hi']
  have ej : r[j]! = r[j] := by simp [hj']
  rw [ei, ej] at hs
  simp only [List.getElem_map, Array.getElem_toList] at hne ⊢
  exact aheadB_total t _ _ (fun e => hne e.symm) hs
end Go.Proofs.YthmnjebmnocoiaaGreat

/- What package ring's tally answers. -/
namespace Go.Proofs.YthmnjebmnocoiaaGreat
open Go.RowKit

theorem made_holds {w : World} {base b n : Nat} (h : w.ownsRow base 3 1 (.slice (some ⟨b, 0, none⟩) n n) n (madeCells (Value.int .i64 0).cells (n * 1)).toList) : Holds w b (intV (List.replicate n 0)) 3 := by
  rcases h.2 with ⟨e, _⟩ | ⟨g, cap, cur, e, _, hg, _, _, hs, ht⟩
  · cases e
  · cases e
    have hl : cur.toList.length = n := by simpa using hs
    have h1 : cur.toList = (madeCells (Value.int .i64 0).cells (n * 1)).toList := by
      rw [← ht, List.take_of_length_le (by omega)]
    have h2 : (madeCells (Value.int .i64 0).cells (n * 1)).toList = intV (List.replicate n 0) := by
      apply List.ext_getElem?
      intro i
      rw [Nat.mul_one]
      rcases Nat.lt_or_ge i n with g | g
      · have e1 : (madeCells (Value.int .i64 0).cells n)[i]? = some (.int .i64 0) := by
          simp [madeCells, Value.cells, g, Nat.mod_one]
        rw [Array.getElem?_toList, e1, intV_at _ _ (by simpa using g)]
        simp [g, List.getD_eq_getElem?_getD]
      · rw [List.getElem?_eq_none (by simp [size_madeCells]; omega), List.getElem?_eq_none (by simp [intV]; omega)]
    unfold Holds
    rw [hg, ← h2, ← h1]
theorem findI_some {M : List Int} {x : Int} {i : Nat} (hM : M.Pairwise (· < ·)) (h : findI M x = some i) : i < M.length ∧ M.getD i 0 = x ∧ M.contains x = true ∧ M.countP (· < x) = i := by
  unfold findI at h
  split at h
  · rename_i hc
    have hi : M.countP (· < x) = i := Option.some.inj h
    refine ⟨?_, ?_, hc, hi⟩
    · subst hi
      have hmem : x ∈ M := by simpa using hc
      clear h hc hM
      induction M with
      | nil => simp at hmem
      | cons y M ih =>
        rcases List.mem_cons.1 hmem with rfl | hm
        · rw [List.countP_cons_of_neg (by simp)]
          have := List.countP_le_length (p := fun z => decide (z < x)) (l := M)
          simp only [List.length_cons]; omega
        · have := ih hm
          rw [List.countP_cons]; simp only [List.length_cons]; split <;> omega
    · subst hi
      have hmem : x ∈ M := by simpa using hc
      clear h hc
      induction M with
      | nil => simp at hmem
      | cons y M ih =>
        obtain ⟨h1, h2⟩ := List.pairwise_cons.1 hM
        rcases List.mem_cons.1 hmem with rfl | hm
        · rw [List.countP_cons_of_neg (by simp), List.countP_eq_zero.2 (fun a ha => by have := h1 a ha; simp; omega)]
          rfl
        · have := h1 x hm
          rw [List.countP_cons_of_pos (by simpa using this), List.getD_cons_succ]
          exact ih h2 hm
  · cases h
theorem findI_none {M : List Int} {x : Int} (h : findI M x = none) : M.contains x = false := by
  unfold findI at h
  split at h
  · cases h
  · rename_i hc; simpa using hc
theorem tallyI_some (n : Nat) (l : List (Option Nat)) (i : Nat) (hi : i < n) : tallyI n (l ++ [some i]) = (tallyI n l).set i ((tallyI n l).getD i 0 + 1) := by
  apply List.ext_getElem
  · simp [tallyI]
  · intro k h1 h2
    have hk : k < n := by simpa [tallyI] using h1
    rw [List.getElem_set]
    by_cases e : i = k
    · subst e
      rw [if_pos rfl]
      simp [tallyI, hi, List.getD_eq_getElem?_getD, List.count_append]
    · rw [if_neg e]
      simp [tallyI, List.count_append, e]
theorem tallyI_none (n : Nat) (l : List (Option Nat)) : tallyI n (l ++ [none]) = tallyI n l := by
  unfold tallyI
  apply List.map_congr_left
  intro i _
  simp [List.count_append]
theorem tallyI_le (n : Nat) (l : List (Option Nat)) (i : Nat) : 0 ≤ (tallyI n l).getD i 0 ∧ (tallyI n l).getD i 0 ≤ l.length := by
  rw [List.getD_eq_getElem?_getD]
  rcases Nat.lt_or_ge i n with g | g
  · simp only [tallyI, List.getElem?_map, List.getElem?_range g, Option.map_some, Option.getD_some]
    have := List.count_le_length (a := some i) (l := l)
    omega
  · rw [List.getElem?_eq_none (by simp [tallyI]; omega)]; simp
theorem intV_set (l : List Int) (i : Nat) (x : Int) : (intV l).set i (.int .i64 x) = intV (l.set i x) := by simp [intV, List.map_set]
theorem search_any (B : Nat) (w : World) (v : Value) (M : List Int) (x : Int) (h : Ints B w v M) (hM : M.Pairwise (· < ·)) (hl : M.length < 4611686018427387904) :
    Calls Tryz.prog 100 #[v, .int .i64 x] w fun e w' => e = .returned (.tuple #[.int .i64 (M.countP (· < x) : Nat), .bool (M.contains x)]) ∧ ∃ q, w' = w.drewN q := by
  obtain ⟨a, cap, rfl, -, h0 | ⟨g, o, rfl, _, hc⟩⟩ := h
  · have e : M = [] := List.eq_nil_of_length_eq_zero h0
    subst e
    refine (Tryz.slices_BinarySearch_int_empty a cap x w).mono ?_
    rintro e w' ⟨rfl, rfl⟩
    exact ⟨rfl, 0, rfl⟩
  · have := Tryz.slices_BinarySearch_int g o M.length cap M x w (Nat.le_refl _) hl hc (by rw [List.take_length]; exact hM.imp (fun h => by omega))
    rwa [List.take_length] at this
theorem search_some (B : Nat) (w : World) (v : Value) (M : List Int) (x : Int) (i : Nat) (h : Ints B w v M) (hM : M.Pairwise (· < ·)) (hl : M.length < 4611686018427387904) (hf : findI M x = some i) :
    Calls Tryz.prog 100 #[v, .int .i64 x] w fun e w' => e = .returned (.tuple #[.int .i64 (i : Int), .bool true]) ∧ ∃ q, w' = w.drewN q := by
  have := search_any B w v M x h hM hl
  obtain ⟨_, _, h3, h4⟩ := findI_some hM hf
  rwa [h3, h4] at this
theorem search_none (B : Nat) (w : World) (v : Value) (M : List Int) (x : Int) (h : Ints B w v M) (hM : M.Pairwise (· < ·)) (hl : M.length < 4611686018427387904) (hf : findI M x = none) :
    Calls Tryz.prog 100 #[v, .int .i64 x] w fun e w' => ∃ j : Int, e = .returned (.tuple #[.int .i64 j, .bool false]) ∧ ∃ q, w' = w.drewN q := by
  have := search_any B w v M x h hM hl
  rw [findI_none hf] at this
  refine this.mono ?_
  rintro e w' ⟨rfl, q⟩
  exact ⟨_, rfl, q⟩
theorem index_own (o : List Int) (ho : o.length = 8) (k : Nat) (hk : k < 8) (w : World) : (Instr.index 43 (.agg (intV o).toArray) (.int .i64 (k : Int))).run Tryz.prog w = .ok (.int .i64 (o.getD k 0)) w :=
  run_index_array w 43 3 8 .i64 und23 und3 siz3 (intV o) k hk _ (intV_at o k (by omega))
theorem getD_at (o : List Int) (k : Nat) (h : k < o.length) : o[k]? = some (o.getD k 0) := by simp [List.getD_eq_getElem?_getD, h]
theorem Holds.drewN {w : World} {b : Nat} {cs : List Value} {t : TypeId} (h : Holds w b cs t) (q : Nat) : Holds (w.drewN q) b cs t := by
  unfold Holds at *; simpa using h

set_option maxHeartbeats 1000000 in
theorem tally_any (B : Nat) (o : List Int) (ho : o.length = 8) (v : Value) (M : List Int) (hM : M.Pairwise (· < ·)) (hl : M.length ≤ 1099511627776) (w : World) (hv : Ints B w v M) (hB : B ≤ w.heap.size) :
    Calls Tryz.prog 69 #[.agg (intV o).toArray, v] w fun e w' => ∃ g, e = .returned (.slice (some ⟨g, 0, none⟩) M.length M.length) ∧ w.heap.size ≤ g ∧ Holds w' g (intV (tallyI M.length (o.map (findI M)))) 3 ∧ Below w.heap.size w w' := by
  obtain ⟨m, hm⟩ : ∃ m, w.heap.size = m := ⟨_, rfl⟩
  rw [hm] at hB ⊢
  obtain ⟨i3, f3, hz3, hs3, hb3⟩ := inf3
  have F3 : Hid (Tryz.prog.info? 3 = some i3) := f3
  have HS : Hid (∀ W x i, Below m w W → findI M x = some i → Calls Tryz.prog 100 #[v, .int .i64 x] W fun e w' => e = .returned (.tuple #[.int .i64 (i : Int), .bool true]) ∧ ∃ q, w' = W.drewN q) := fun W x i hW hf => search_some B W v M x i (hv.below (hW.mono hB)) hM (by omega) hf
  have HN : Hid (∀ W x, Below m w W → findI M x = none → Calls Tryz.prog 100 #[v, .int .i64 x] W fun e w' => ∃ j : Int, e = .returned (.tuple #[.int .i64 j, .bool false]) ∧ ∃ q, w' = W.drewN q) := fun W x hW hf => search_none B W v M x (hv.below (hW.mono hB)) hM (by omega) hf
  have HI : Hid (∀ k : Nat, k < 8 → ∀ W, (Instr.index 43 (.agg (intV o).toArray) (.int .i64 (k : Int))).run Tryz.prog W = .ok (.int .i64 (o.getD k 0)) W) := fun k hk W => index_own o ho k hk W
  have HM : Hid (M.Pairwise (· < ·)) := hM
  have HO : Hid (o.length = 8) := ho
  obtain ⟨a, cap, rfl⟩ := hv.len
  obtain ⟨n, hn⟩ : ∃ n, M.length = n := ⟨_, rfl⟩
  have HL : Hid (M.length = n) := hn
  rw [hn] at hl HS HN ⊢
  clear hn hv hM ho f3
  go_enter Tryz.func69, Tryz.ntmps69
  go_wp2_with (first
    | (refine wpList_box_new 2 rfl rfl 43 _ rfl m hm _ rfl ?_; intro w1 h1)
    | (refine wpList_make_full _ rfl _ _ 30 rfl (m + 1) 3 i3 _ 1 und24 F3.out hz3 hs3 .i64 .i64 _ _ n rfl rfl rfl rfl (by rw [hb3]; omega) (by unfold maxLen; omega) (by rw [h1.size]; omega) ?_; rw [h1.size]; intro w2 own2 gr2; have H2 : Holds w2 m (intV o) 43 := by (unfold Holds; rw [gr2.block m (by rw [h1.size]; omega) (by simp)]; exact h1.holds))
    | (refine wpList_load_all rfl 43 _ rfl _ rfl 43 (intV o) 8 3 H2 und23 (by rw [siz23, intV_len, HO.out]) ?_))
  have hR := made_holds own2
  have hB2 : Below m w w2 := h1.below.trans ⟨gr2.os, gr2.tape, gr2.output, gr2.size, fun k hk => gr2.block k (by rw [h1.size]; omega) (by simp)⟩
  have hsz2 : m + 1 < w2.heap.size := hR.lt
  have HB2 : Hid (Below m w w2) := hB2
  have HR : Hid (Holds w2 (m + 1) (intV (tallyI n ((o.take 0).map (findI M)))) 3) := by
    have : tallyI n ((o.take 0).map (findI M)) = List.replicate n 0 := by
      unfold tallyI
      simp [List.map_const']
    show Holds _ _ _ _
    rw [this]; exact hR
  clear hR own2 gr2 h1 H2 hB2
  go_loopw [14] (fun c wr => ∃ k : Nat, k ≤ 8 ∧ c = .int .i64 (k : Int) ∧ Holds wr (m + 1) (intV (tallyI n ((o.take k).map (findI M)))) 3 ∧ Below (m + 1) w2 wr) (fun c _ => 8 - (intOf c).toNat)
  case atStart => exact ⟨0, by omega, rfl, HR.out, Below.refl _ _⟩
  case round =>
  clear HR
  obtain ⟨k, hk, rfl, hh, hBe⟩ := hrel
  by_cases hlt : k < 8
  · have hix := HI.out k hlt
    have hstep : (o.take (k + 1)).map (findI M) = (o.take k).map (findI M) ++ [findI M (o.getD k 0)] := by
      rw [List.take_add_one, getD_at o k (by rw [HO.out]; exact hlt), List.map_append]; rfl
    have hlen : ((o.take k).map (findI M)).length ≤ 8 := by simp; omega
    generalize o.getD k 0 = x at hix hstep
    generalize (o.take k).map (findI M) = S at hh hstep hlen
    have i0 : (0 : Int) ≤ (k : Int) := by omega
    have i1 : (k : Int) < 8 := by omega
    have hb : Below m w wr := HB2.out.trans (hBe.mono (by omega))
    have HBe : Hid (Below (m + 1) w2 wr) := hBe
    cases hf : findI M x with
    | some i =>
      obtain ⟨hi, -, -, -⟩ := findI_some HM.out hf
      rw [HL.out] at hi
      have hC : Hid (Calls Tryz.prog 100 #[.slice a n cap, .int .i64 x] wr fun e w' => e = .returned (.tuple #[.int .i64 (i : Int), .bool true]) ∧ ∃ q, w' = wr.drewN q) := HS.out wr x i hb hf
      rw [hf] at hstep
      have hst : Hid (tallyI n ((o.take (k + 1)).map (findI M)) = (tallyI n S).set i ((tallyI n S).getD i 0 + 1)) := by
        show _ = _
        rw [hstep, tallyI_some n S i hi]
      obtain ⟨y0, y1⟩ := tallyI_le n S i
      have hcell : ∀ q, (wr.drewN q).cell? ⟨m + 1, i, none⟩ = some (.int .i64 ((tallyI n S).getD i 0)) := fun q => (hh.drewN q).at i _ (intV_at _ i (by rw [tallyI_len]; exact hi))
      have hfr : ∀ q, (wr.drewN q).frozen? ⟨m + 1, i, none⟩ = false := fun q => (hh.drewN q).frozen i
      generalize (tallyI n S).getD i 0 = y at hst y0 y1 hcell
      have y2 : y ≤ 8 := by omega
      have HH : Hid (Holds wr (m + 1) (intV (tallyI n S)) 3) := hh
      have j0 : (0 : Int) ≤ (i : Int) := by omega
      have j1 : (i : Int) < (n : Int) := by omega
      clear hf hstep hh hBe hb y1
      go_wp2_with (go_at_call 100; refine hC.out.mono ?_; rintro e w3 ⟨rfl, q, rfl⟩; have hcq := hcell q; have hfq := hfr q; clear hcell hfr)
      refine ⟨⟨k + 1, by omega, by go_num, ?_, ?_⟩, by simp [intOf]; omega⟩
      · rw [hst.out, ← intV_set]
        exact (HH.out.drewN q).set i _
      · have := (turned_set (HH.out.drewN q) i (.int .i64 (y + 1))).below (B := m + 1) (by omega)
        exact (HBe.out.trans (below_drewN _ _ q)).trans this
    | none =>
      have hC : Hid (Calls Tryz.prog 100 #[.slice a n cap, .int .i64 x] wr fun e w' => ∃ j : Int, e = .returned (.tuple #[.int .i64 j, .bool false]) ∧ ∃ q, w' = wr.drewN q) := HN.out wr x hb hf
      rw [hf] at hstep
      have hst : Hid (tallyI n ((o.take (k + 1)).map (findI M)) = tallyI n S) := by
        show _ = _
        rw [hstep, tallyI_none n S]
      have HH : Hid (Holds wr (m + 1) (intV (tallyI n S)) 3) := hh
      clear hf hstep hh hBe hb
      go_wp2_with (go_at_call 100; refine hC.out.mono ?_; rintro e w3 ⟨j, rfl, q, rfl⟩)
      refine ⟨⟨k + 1, by omega, by go_num, ?_, ?_⟩, by simp [intOf]; omega⟩
      · rw [hst.out]
        exact HH.out.drewN q
      · exact HBe.out.trans (below_drewN _ _ q)
  · have e8 : k = 8 := by omega
    subst e8
    rw [List.take_of_length_le (by rw [HO.out]; omega)] at hh
    have HH : Hid (Holds wr (m + 1) (intV (tallyI n (o.map (findI M)))) 3) := hh
    have HBe : Hid (Below (m + 1) w2 wr) := hBe
    clear hh hBe
    go_wp2
    go_ret
    exact ⟨_, rfl, by omega, HH.out, HB2.out.trans (HBe.out.mono (by omega))⟩
end Go.Proofs.YthmnjebmnocoiaaGreat

/- The sort of the places, in memory. -/
namespace Go.Proofs.YthmnjebmnocoiaaGreat
open Go.RowKit Go.Sort

theorem put_row {α : Type} [Inhabited α] (enc : α → Value) {w : World} {b : Nat} {xs tl : List Value} {t : TypeId} (h : Holds w b (xs ++ tl) t) (d : Array α) (hd : d.size = xs.length) (n : Nat) (os : Array Obj) :
    Holds (grow (putRow enc (Go.Sort.ahead w n) b 0 d) os) b (d.toList.map enc ++ tl) t ∧ Upd b w (grow (putRow enc (Go.Sort.ahead w n) b 0 d) os) := by
  have hb := h.lt
  have hsz : (putRow enc (Go.Sort.ahead w n) b 0 d).heap.size = w.heap.size := by
    simp [putRow, mapBlock, Go.Sort.ahead]
  have hh : ∀ k, (putRow enc (Go.Sort.ahead w n) b 0 d).heap[k]? = if b = k then (w.heap[k]?).map (onCells (putCells enc 0 d)) else w.heap[k]? := by
    intro k
    simp only [putRow, mapBlock, Go.Sort.ahead, Array.getElem?_modify]
  have hg : ∀ k, k < w.heap.size → (grow (putRow enc (Go.Sort.ahead w n) b 0 d) os).heap[k]? = (putRow enc (Go.Sort.ahead w n) b 0 d).heap[k]? := by
    intro k hk
    show (_ ++ os)[k]? = _
    rw [Array.getElem?_append_left (by rw [hsz]; exact hk)]
  refine ⟨?_, rfl, rfl, rfl, ?_, fun k hk hne => ?_⟩
  · unfold Holds at *
    rw [hg b hb, hh, if_pos rfl, h]
    show some (Obj.cells (putCells enc 0 d (xs ++ tl).toArray) t (0, 0)) = _
    congr 2
    apply Array.ext_getElem?
    intro i
    simp only [putCells, Array.getElem?_mapIdx, List.getElem?_toArray]
    rcases Nat.lt_or_ge i xs.length with g | g
    · rw [List.getElem?_append_left g, List.getElem?_eq_getElem g, List.getElem?_append_left (by simp; omega)]
      simp only [Option.map_some]
      rw [if_pos (by omega), List.getElem?_map, List.getElem?_eq_getElem (by simp; omega)]
      simp [show i < d.size by omega]
    · rw [List.getElem?_append_right g, List.getElem?_append_right (by simp; omega)]
      simp only [List.length_map, Array.length_toList, hd]
      cases tl[i - xs.length]? with
      | none => rfl
      | some v => simp only [Option.map_some]; rw [if_neg (by omega)]
  · show w.heap.size ≤ (_ ++ os).size
    rw [Array.size_append, hsz]; omega
  · rw [hg k hk, hh, if_neg (fun e => hne e.symm)]
theorem putRow_drewN {α : Type} [Inhabited α] (enc : α → Value) (w : World) (b n : Nat) (d : Array α) : (putRow enc w b 0 d).drewN n = grow (putRow enc (Go.Sort.ahead w n) b 0 d) #[] := by
  rw [grow_empty]; rfl

def encF {m : Nat} (x : Fin (m + 1)) : Value := .int .i64 ((x.val : Nat) : Int)
def ordL (m : Nat) (t : List Int) : List Nat := (orderA (m := m) t).toList.map Fin.val
def natI (l : List Nat) : List Int := l.map fun n => ((n : Nat) : Int)
theorem encF_list {m : Nat} (r : Array (Fin (m + 1))) : r.toList.map encF = intV (natI (r.toList.map Fin.val)) := by
  simp [intV, natI, encF]
set_option maxHeartbeats 1000000 in
theorem cmp_any (c g n : Nat) (t : List Int) (W : World) (i j : Nat) (hi : i < n) (hj : j < n) (hn : t.length = n) (h8 : ∀ k, 0 ≤ t.getD k 0 ∧ t.getD k 0 ≤ 8) (hc : Holds W c [.slice (some ⟨g, 0, none⟩) n n] 30) (hg : Holds W g (intV t) 3) :
    Calls Tryz.prog 99 #[.int .i64 (i : Int), .int .i64 (j : Int), .pointer (some ⟨c, 0, none⟩)] W fun e w' => e = .returned (.int .i64 (t.getD j 0 - t.getD i 0)) ∧ ∃ q, w' = W.drewN q := by
  have c0 := hc.at 0 _ rfl
  have c1 := hg.at i _ (intV_at t i (by omega))
  have c2 := hg.at j _ (intV_at t j (by omega))
  obtain ⟨a0, a1⟩ := h8 i
  obtain ⟨b0, b1⟩ := h8 j
  generalize t.getD i 0 = x at *
  generalize t.getD j 0 = y at *
  have i0 : (0 : Int) ≤ (i : Int) := by omega
  have i1 : (i : Int) < (n : Int) := by omega
  have j0 : (0 : Int) ≤ (j : Int) := by omega
  have j1 : (j : Int) < (n : Int) := by omega
  clear hc hg h8 hn
  go_enter Tryz.func99, Tryz.ntmps99
  go_wp2
  go_quiet (fail)
  go_wp2
  go_ret
  exact ⟨rfl, _, rfl⟩
theorem cmpReads (m : Nat) (c g b : Nat) (t : List Int) (w : World) (hn : t.length = m + 1) (h8 : ∀ k, 0 ≤ t.getD k 0 ∧ t.getD k 0 ≤ 8) (hc : Holds w c [.slice (some ⟨g, 0, none⟩) (m + 1) (m + 1)] 30) (hg : Holds w g (intV t) 3) (hb : Holds w b (intV (natI (List.range (m + 1)))) 3) (hbc : c ≠ b) (hbg : g ≠ b) :
    CmpReads Tryz.prog 99 #[.pointer (some ⟨c, 0, none⟩)] (encF (m := m)) (cfI t) b 0 (m + 1) w := by
  intro q os dk hdk x y
  have hp := (put_row encF (tl := []) (by rw [List.append_nil]; exact hb) dk (by rw [hdk, intV_len]; simp [natI]) q os).2
  exact cmp_any c g (m + 1) t _ x.val y.val x.isLt y.isLt hn h8 (hc.upd hp hbc) (hg.upd hp hbg)
set_option maxHeartbeats 1000000 in
theorem stable_small (m : Nat) (hm : m + 1 < 20) (c g b cap : Nat) (t : List Int) (w : World) (hn : t.length = m + 1) (h8 : ∀ k, 0 ≤ t.getD k 0 ∧ t.getD k 0 ≤ 8) (hc : Holds w c [.slice (some ⟨g, 0, none⟩) (m + 1) (m + 1)] 30) (hg : Holds w g (intV t) 3) (hb : Holds w b (intV (natI (List.range (m + 1)))) 3) (hbc : c ≠ b) (hbg : g ≠ b) :
    Calls Tryz.prog 98 #[.slice (some ⟨b, 0, none⟩) (m + 1) cap, .func (.func 99) #[] #[.pointer (some ⟨c, 0, none⟩)]] w fun e w' => e = .returned (.tuple #[]) ∧ Holds w' b (intV (natI (ordL m t))) 3 ∧ Upd b w w' := by
  have eg : ∀ args w, (callFunc 99 args).run Tryz.prog w = .ok (.enter 99 args) w := enters_of Tryz.func99 (by kernel_rfl) rfl
  have hHs : Go.Sort.Holds (encF (m := m)) w b 0 (idA m) := fun j hj => by
    have hj' : j < m + 1 := by rw [idA_size] at hj; exact hj
    refine ⟨?_, hb.frozen _⟩
    rw [Nat.zero_add, hb.at j _ (intV_at _ j (by simp [natI]; omega)), idA_at j hj']
    simp [natI, encF, hj']
  have hI : Hid (Calls Tryz.prog 134 #[.slice (some ⟨b, 0, none⟩) (m + 1) cap, .int .i64 0, .int .i64 ((m + 1 : Nat) : Int), .func (.func 99) #[] #[.pointer (some ⟨c, 0, none⟩)]] w fun e w' => e = .returned (.tuple #[]) ∧ Holds w' b (intV (natI (ordL m t))) 3 ∧ Upd b w w') := by
    have h := Tryz.insertionSortCmpFunc_one (encF (m := m)) (fun x => rfl) (cfI t) 99 #[.pointer (some ⟨c, 0, none⟩)] b 0 cap 0 (m + 1) (idA m) w eg (by rw [idA_size]; exact cmpReads m c g b t w hn h8 hc hg hb hbc hbg) hHs (by omega) (by rw [idA_size]; omega) (by rw [idA_size]; omega)
    rw [idA_size] at h
    refine h.mono ?_
    rintro e w' ⟨rfl, n, rfl⟩
    rw [putRow_drewN]
    obtain ⟨hz, -⟩ := orderA_spec (m := m) t hn
    have hp := put_row encF (tl := []) (by rw [List.append_nil]; exact hb) (orderA (m := m) t) (by rw [hz, intV_len]; simp [natI]) n #[]
    rw [List.append_nil, encF_list] at hp
    exact ⟨rfl, hp.1, hp.2⟩
  clear hHs eg hc hg hb hn h8
  generalize hnn : m + 1 = n at *
  have h20 : ¬ (20 : Int) ≤ (n : Int) := by omega
  have h21 : ¬ (20 : Int) < (n : Int) := by omega
  have hS : Hid (Calls Tryz.prog 112 #[.slice (some ⟨b, 0, none⟩) n cap, .int .i64 (n : Int), .func (.func 99) #[] #[.pointer (some ⟨c, 0, none⟩)]] w fun e w' => e = .returned (.tuple #[]) ∧ Holds w' b (intV (natI (ordL m t))) 3 ∧ Upd b w w') := by
    show Calls _ _ _ _ _
    clear hnn hm
    go_enter Tryz.func112, Tryz.ntmps112
    go_wp2
    go_loopw [7, 8] (fun x y wr => x = .int .i64 0 ∧ y = .int .i64 20 ∧ wr = w) (fun _ _ _ => 0)
    case atStart => exact ⟨rfl, rfl, rfl⟩
    case round =>
    obtain ⟨rfl, rfl, rfl⟩ := hrel
    go_wp2_with (go_at_call 134; refine hI.out.mono ?_; rintro e w3 ⟨rfl, H3, U3⟩)
    have H3' : Hid (Holds w3 b (intV (natI (ordL m t))) 3) := H3
    have U3' : Hid (Upd b wr w3) := U3
    clear H3 U3
    go_loopw [6] (fun x wq => x = .int .i64 20 ∧ wq = w3) (fun _ _ => 0)
    case atStart => exact ⟨rfl, rfl⟩
    case round =>
    obtain ⟨rfl, rfl⟩ := hrel
    go_wp2
    go_end0
    exact ⟨rfl, H3'.out, U3'.out⟩
  clear hnn hm h20 h21 hI
  go_enter Tryz.func98, Tryz.ntmps98
  go_wp2_with (go_at_call 112; refine hS.out.mono ?_; rintro e w3 ⟨rfl, H3, U3⟩)
  go_end0
  exact ⟨rfl, H3, U3⟩
end Go.Proofs.YthmnjebmnocoiaaGreat

/- What package ring's shares answers. -/
namespace Go.Proofs.YthmnjebmnocoiaaGreat
open Go.RowKit

def firstK (n k : Nat) : List Int := (List.range n).map fun i => if i < k then ((i : Nat) : Int) else 0
theorem firstK_len (n k : Nat) : (firstK n k).length = n := by simp [firstK]
theorem firstK_zero (n : Nat) : firstK n 0 = List.replicate n 0 := by simp [firstK, List.map_const']
theorem firstK_all (n : Nat) : firstK n n = natI (List.range n) := by
  unfold firstK natI
  apply List.map_congr_left
  intro i hi
  rw [if_pos (by simpa using hi)]
theorem firstK_succ (n k : Nat) : firstK n (k + 1) = (firstK n k).set k (k : Int) := by
  apply List.ext_getElem
  · simp [firstK]
  · intro i h1 h2
    have hi : i < n := by simpa [firstK] using h1
    rw [List.getElem_set]
    simp only [firstK, List.getElem_map, List.getElem_range]
    by_cases e : k = i
    · subst e; simp
    · rw [if_neg e]
      by_cases g : i < k
      · rw [if_pos g, if_pos (by omega)]
      · rw [if_neg g, if_neg (by omega)]
def partK (t : List Int) (k : Nat) : List Int := (List.range t.length).map fun i => if rankI t i < k then quotaI t.length (rankI t i) else 0
theorem partK_len (t : List Int) (k : Nat) : (partK t k).length = t.length := by simp [partK]
theorem partK_zero (t : List Int) : partK t 0 = List.replicate t.length 0 := by simp [partK, List.map_const']
theorem rankI_lt (t : List Int) (i : Nat) (hi : i < t.length) : rankI t i < t.length := by
  obtain ⟨r, hr⟩ := order_exists t
  have hm : i ∈ r := hr.perm.mem_iff.2 (by simpa using hi)
  obtain ⟨k, hk, e⟩ := List.getElem_of_mem hm
  rw [hr.rank k i (by rw [List.getElem?_eq_getElem hk, e])]
  have := hr.perm.length_eq
  simp at this; omega
theorem rankI_inj {t : List Int} {r : List Nat} (h : IsOrder t r) (k x i : Nat) (hx : r[k]? = some x) (hi : i < t.length) (he : rankI t i = k) : i = x := by
  have hm : i ∈ r := h.perm.mem_iff.2 (by simpa using hi)
  obtain ⟨k', hk', e⟩ := List.getElem_of_mem hm
  have h1 := h.rank k' i (by rw [List.getElem?_eq_getElem hk', e])
  have : k' = k := by omega
  subst this
  rw [List.getElem?_eq_getElem hk', e] at hx
  exact Option.some.inj hx
theorem partK_all (t : List Int) : partK t t.length = shareI t := by
  unfold partK shareI
  apply List.map_congr_left
  intro i hi
  rw [if_pos (rankI_lt t i (by simpa using hi))]
theorem partK_succ {t : List Int} {r : List Nat} (h : IsOrder t r) (k x : Nat) (hx : r[k]? = some x) : partK t (k + 1) = (partK t k).set x (quotaI t.length k) := by
  have hr := h.rank k x hx
  apply List.ext_getElem
  · simp [partK]
  · intro i h1 h2
    have hi : i < t.length := by simpa [partK] using h1
    rw [List.getElem_set]
    simp only [partK, List.getElem_map, List.getElem_range]
    by_cases e : x = i
    · subst e; rw [if_pos rfl, if_pos (by omega), hr]
    · rw [if_neg e]
      by_cases g : rankI t i < k
      · rw [if_pos g, if_pos (by omega)]
      · have : rankI t i ≠ k := fun q => e (rankI_inj h k x i hx hi q).symm
        rw [if_neg g, if_neg (by omega)]
theorem set_set (l : List Int) (i : Nat) (x y : Int) : (l.set i x).set i y = l.set i y := List.set_set ..
theorem natI_at (l : List Nat) (i x : Nat) (h : l[i]? = some x) : (intV (natI l))[i]? = some (.int .i64 (x : Int)) := by simp [intV, natI, h]

set_option maxHeartbeats 2000000 in
theorem shares_any (m : Nat) (hm : m + 1 < 20) (g : Nat) (t : List Int) (w : World) (hn : t.length = m + 1) (h8 : ∀ k, 0 ≤ t.getD k 0 ∧ t.getD k 0 ≤ 8) (hg : Holds w g (intV t) 3) :
    Calls Tryz.prog 68 #[.slice (some ⟨g, 0, none⟩) (m + 1) (m + 1)] w fun e w' => ∃ g', e = .returned (.slice (some ⟨g', 0, none⟩) (m + 1) (m + 1)) ∧ w.heap.size ≤ g' ∧ Holds w' g' (intV (shareI t)) 3 ∧ Below w.heap.size w w' := by
  obtain ⟨N, hN⟩ : ∃ N, w.heap.size = N := ⟨_, rfl⟩
  have hgN : g < N := by rw [← hN]; exact hg.lt
  rw [hN]
  obtain ⟨i3, f3, hz3, hs3, hb3⟩ := inf3
  have F3 : Hid (Tryz.prog.info? 3 = some i3) := f3
  have HSt : Hid (∀ W, Holds W N [.slice (some ⟨g, 0, none⟩) (m + 1) (m + 1)] 30 → Holds W g (intV t) 3 → Holds W (N + 1) (intV (natI (List.range (m + 1)))) 3 → Calls Tryz.prog 98 #[.slice (some ⟨N + 1, 0, none⟩) (m + 1) (m + 1), .func (.func 99) #[] #[.pointer (some ⟨N, 0, none⟩)]] W fun e w' => e = .returned (.tuple #[]) ∧ Holds w' (N + 1) (intV (natI (ordL m t))) 3 ∧ Upd (N + 1) W w') := fun W hc hg hb => stable_small m hm N g (N + 1) (m + 1) t W hn h8 hc hg hb (by omega) (by omega)
  have HO : Hid ((ordL m t).length = m + 1 ∧ IsOrder t (ordL m t)) := by
    obtain ⟨a, b⟩ := orderA_spec (m := m) t hn
    exact ⟨by simp [ordL, a], b⟩
  have HG : Hid (Holds w g (intV t) 3) := hg
  have HT : Hid (t.length = m + 1) := hn
  generalize hnn : m + 1 = n at *
  have hpos : 0 < n := by omega
  have hsm : n < 20 := hm
  clear hm hn h8 hg f3 hnn
  go_enter Tryz.func68, Tryz.ntmps68
  go_wp2_with (first
    | (refine wpList_make_full _ rfl _ _ 30 rfl (N + 1) 3 i3 _ 1 und24 F3.out hz3 hs3 .i64 .i64 _ _ n rfl rfl rfl rfl (by rw [hb3]; omega) (by unfold maxLen; omega) (by simp [hN]) ?_; intro w2 own2 gr2))
  have hR := made_holds own2
  have hB0 : Below N w (w.alloc (.cells #[.slice (some ⟨g, 0, none⟩) n n] 30)) := (Below.refl _ w).alloc (by omega) _
  have hsz1 : (w.alloc (.cells #[.slice (some ⟨g, 0, none⟩) n n] 30)).heap.size = N + 1 := by simp [hN]
  have hC2 : Holds w2 N [.slice (some ⟨g, 0, none⟩) n n] 30 := by
    unfold Holds
    rw [gr2.block N (by omega) (by simp)]
    have := heap_alloc_new w (.cells #[.slice (some ⟨g, 0, none⟩) n n] 30)
    rw [hN] at this
    exact this
  have hB2 : Below N w w2 := hB0.trans ⟨gr2.os, gr2.tape, gr2.output, gr2.size, fun k hk => gr2.block k (by omega) (by simp)⟩
  have hG2 : Holds w2 g (intV t) 3 := HG.out.below hB2 hgN
  rw [hsz1] at hR
  have hR2 : Holds w2 (N + 1) (intV (firstK n 0)) 3 := by rw [firstK_zero]; exact hR
  have HB2 : Hid (Below N w w2) := hB2
  have HC2 : Hid (Holds w2 N [.slice (some ⟨g, 0, none⟩) n n] 30) := hC2
  have HG2 : Hid (Holds w2 g (intV t) 3) := hG2
  have HR2 : Hid (Holds w2 (N + 1) (intV (firstK n 0)) 3) := hR2
  clear hR own2 gr2 hB0 hsz1 hC2 hB2 hG2 hR2
  go_loopw [13] (fun c wr => ∃ k : Nat, k ≤ n ∧ c = .int .i64 (k : Int) ∧ Holds wr (N + 1) (intV (firstK n k)) 3 ∧ Upd (N + 1) w2 wr) (fun c _ => n - (intOf c).toNat)
  case atStart => exact ⟨0, by omega, rfl, HR2.out, Upd.refl _ _⟩
  case round =>
  obtain ⟨k, hk, rfl, hh, hU⟩ := hrel
  by_cases hlt : k < n
  · have i0 : (0 : Int) ≤ (k : Int) := by omega
    have i1 : (k : Int) < (n : Int) := by omega
    have hcell := hh.at k _ (intV_at _ k (by rw [firstK_len]; exact hlt))
    have hfr := hh.frozen k
    have hst : Hid (Holds (wr.setCell ⟨N + 1, k, none⟩ (.int .i64 (k : Int))) (N + 1) (intV (firstK n (k + 1))) 3) := by
      show Holds _ _ _ _
      rw [firstK_succ n k, ← intV_set]
      exact hh.set k _
    have hU2 : Hid (Upd (N + 1) w2 (wr.setCell ⟨N + 1, k, none⟩ (.int .i64 (k : Int)))) := hU.setCell k _
    generalize (firstK n k).getD k 0 = y at hcell
    clear hh hU
    go_wp2
    exact ⟨⟨k + 1, by omega, by go_num, hst.out, hU2.out⟩, by simp [intOf]; omega⟩
  · have e8 : k = n := by omega
    rw [e8, firstK_all] at hh
    have i1 : ¬ (k : Int) < (n : Int) := by omega
    have hS := HSt.out wr (HC2.out.upd hU (by omega)) (HG2.out.upd hU (by omega)) hh
    have hS' : Hid (Calls Tryz.prog 98 #[.slice (some ⟨N + 1, 0, none⟩) n n, .func (.func 99) #[] #[.pointer (some ⟨N, 0, none⟩)]] wr fun e w' => e = .returned (.tuple #[]) ∧ Holds w' (N + 1) (intV (natI (ordL m t))) 3 ∧ Upd (N + 1) wr w') := hS
    have HU : Hid (Upd (N + 1) w2 wr) := hU
    have hcb : ∀ W, Upd (N + 1) w2 W → W.cell? ⟨N, 0, none⟩ = some (.slice (some ⟨g, 0, none⟩) n n) := fun W hu => (HC2.out.upd hu (by omega)).at 0 _ rfl
    have HCB : Hid (∀ W, Upd (N + 1) w2 W → W.cell? ⟨N, 0, none⟩ = some (.slice (some ⟨g, 0, none⟩) n n)) := hcb
    have hsz2 : Hid (N + 1 < w2.heap.size) := HR2.out.lt
    clear hh hU hS e8 hcb
    go_wp2_with (first
      | (go_at_call 98; refine hS'.out.mono ?_; rintro e w3 ⟨rfl, H3, U3⟩; have U03 := HU.out.trans U3; have c3 := HCB.out w3 U03; obtain ⟨G, hG⟩ : ∃ G, w3.heap.size = G := ⟨_, rfl⟩)
      | (refine wpList_make_full _ rfl _ _ 30 rfl 0 3 i3 _ 1 und24 F3.out hz3 hs3 .i64 .i64 _ _ n rfl rfl rfl rfl (by rw [hb3]; omega) (by unfold maxLen; omega) (by omega) ?_; rw [hG]; intro w4 own4 gr4))
    have hR4 := made_holds own4
    have hGN : N + 1 < G := by have := U03.size; have := hsz2.out; omega
    have hb4 : ∀ b cs ty, b < G → Holds w3 b cs ty → Holds w4 b cs ty := fun b cs ty hb h => by
      unfold Holds
      rw [gr4.block b (by omega) (by simp)]; exact h
    have HO4 : Hid (Holds w4 (N + 1) (intV (natI (ordL m t))) 3) := hb4 _ _ _ hGN H3
    have HC4 : Hid (Holds w4 N [.slice (some ⟨g, 0, none⟩) n n] 30) := hb4 _ _ _ (by omega) (HC2.out.upd U03 (by omega))
    have HB4 : Hid (Below N w w4) := (HB2.out.trans (U03.below (by omega) (by have := hsz2.out; omega))).trans ⟨gr4.os, gr4.tape, gr4.output, gr4.size, fun k hk => gr4.block k (by omega) (by simp)⟩
    have HR4 : Hid (Holds w4 G (intV (partK t 0)) 3) := by
      show Holds _ _ _ _
      rw [partK_zero, HT.out]; exact hR4
    clear hR4 own4 gr4 hb4 H3 U3 U03 c3 hG
    generalize wr = wo at *
    go_loopw [29] (fun c wr => ∃ k : Nat, k ≤ n ∧ c = .int .i64 (k : Int) ∧ Holds wr G (intV (partK t k)) 3 ∧ Upd G w4 wr) (fun c _ => n - (intOf c).toNat)
    case atStart => exact ⟨0, by omega, rfl, HR4.out, Upd.refl _ _⟩
    case round =>
    clear HR4
    obtain ⟨p, hp, rfl, hh, hV⟩ := hrel
    by_cases hlp : p < n
    · have j0 : (0 : Int) ≤ (p : Int) := by omega
      have j1 : (p : Int) < (n : Int) := by omega
      obtain ⟨x, hx⟩ : ∃ x, (ordL m t)[p]? = some x := ⟨_, List.getElem?_eq_getElem (by rw [HO.out.1]; exact hlp)⟩
      have hxn : x < n := by
        have := HO.out.2.perm.mem_iff.1 (List.mem_of_getElem? hx)
        rw [HT.out] at this; simpa using this
      have x0 : (0 : Int) ≤ (x : Int) := by omega
      have x1 : (x : Int) < (n : Int) := by omega
      have ho := (HO4.out.upd hV (by omega)).at p _ (natI_at _ p x hx)
      have hc := (HC4.out.upd hV (by omega)).at 0 _ rfl
      have hcell := hh.at x _ (intV_at _ x (by rw [partK_len, HT.out]; exact hxn))
      have hfr := hh.frozen x
      have hn0 : ¬ (n : Int) = 0 := by omega
      have hstep := partK_succ HO.out.2 p x hx
      rw [HT.out] at hstep
      have emod : ((8 % n : Nat) : Int) = 8 % (n : Int) := by simp
      have HH : Hid (Holds wr G (intV (partK t p)) 3) := hh
      have HV : Hid (Upd G w4 wr) := hV
      generalize (partK t p).getD x 0 = y at hcell
      have hd0 : 0 ≤ 8 / (n : Int) := Int.ediv_nonneg (by omega) (by omega)
      have hd8 : 8 / (n : Int) ≤ 8 := Int.ediv_le_self _ (by omega)
      by_cases hq : (p : Int) < 8 % (n : Int)
      · have hst : Hid (partK t (p + 1) = (partK t p).set x (8 / (n : Int) + 1)) := by
          show _ = _
          rw [hstep, quotaI, if_pos (by omega)]
        clear hh hV hx hstep emod
        go_wp2
        refine ⟨⟨p + 1, by omega, by go_num, ?_, ?_⟩, by simp [intOf]; omega⟩
        · rw [hst.out, ← set_set _ x (8 / (n : Int)), ← intV_set, ← intV_set]
          first
            | exact (HH.out.set x _).set x _
            | (rw [List.set_set]; exact HH.out.set x _)
        · first
            | exact (HV.out.setCell x _).setCell x _
            | exact HV.out.setCell x _
      · have hst : Hid (partK t (p + 1) = (partK t p).set x (8 / (n : Int))) := by
          show _ = _
          rw [hstep, quotaI, if_neg (by omega), Int.add_zero]
        clear hh hV hx hstep emod
        go_wp2
        refine ⟨⟨p + 1, by omega, by go_num, ?_, ?_⟩, by simp [intOf]; omega⟩
        · rw [hst.out, ← intV_set]
          exact HH.out.set x _
        · exact HV.out.setCell x _
    · have e8 : p = n := by omega
      have hpn : partK t p = shareI t := by rw [e8, ← HT.out, partK_all]
      rw [hpn] at hh
      have j1 : ¬ (p : Int) < (n : Int) := by omega
      have HH : Hid (Holds wr G (intV (shareI t)) 3) := hh
      have HV : Hid (Upd G w4 wr) := hV
      clear hh hV hpn e8
      go_wp2
      go_ret
      exact ⟨_, rfl, by omega, HH.out, HB4.out.trans (HV.out.below (by omega) (by have := HO4.out.lt; omega))⟩
end Go.Proofs.YthmnjebmnocoiaaGreat
