/- NetOnce in plain words. -/
import Derived.Test.YtmdoamkockoipaaNtFull
namespace Go.Proofs.Ytmdoamkockoipaa
open Go.RowKit Go.Maps

def numsL (l : List Mg) : List Int := l.map fun m => m.1
/-- Where NetOnce stands behind i messages. -/
structure OnceI (i c : Nat) (s : Nt) (snt : List Mg) (gt : List Int) : Prop where
  last : s.last = i
  sl : snt.length = i
  num : ∀ (j : Nat) (m : Mg), snt[j]? = some m → m.1 = (j : Int) + 1
  ok : OkS s
  mem : ∀ m ∈ s.l, ∃ j : Nat, snt[j]? = some m
  nodup : (numsL s.l).Nodup
  gl : gt.length = 61
  got : ∀ j : Nat, j < i → gt[j + 1]? = some (if ((j : Int) + 1) ∈ numsL s.l then 0 else 1)
  rest : ∀ j : Nat, i ≤ j → j < 60 → gt[j + 1]? = some 0
  cl : s.cuts.length ≤ c
  ll : s.l.length ≤ i
theorem once_start : OnceI 0 0 nt0 [] (List.replicate 61 0) :=
  ⟨rfl, rfl, fun j m h => by simp at h, (fun m h => nomatch h), (fun m h => nomatch h), List.nodup_nil, by simp, fun j h => by omega, fun j _ h => by rw [List.getElem?_replicate, if_pos (by omega)], Nat.zero_le _, Nat.zero_le _⟩
theorem num_le {i c : Nat} {s : Nt} {snt : List Mg} {gt : List Int} (h : OnceI i c s snt gt) {m : Mg} (hm : m ∈ s.l) : ∃ j : Nat, j < i ∧ snt[j]? = some m ∧ m.1 = (j : Int) + 1 := by
  obtain ⟨j, hj⟩ := h.mem m hm
  exact ⟨j, by rw [← h.sl]; exact (List.getElem?_eq_some_iff.1 hj).1, hj, h.num j m hj⟩
theorem OnceI.send {i c : Nat} {s : Nt} {snt : List Mg} {gt : List Int} (h : OnceI i c s snt gt) (hi : i < 60) (a b : Int) (ha : okI a) (hb : okI b) (bd : ByteArray) : OnceI (i + 1) c (addN s a b bd) (snt ++ [((i : Int) + 1, a, b, bd)]) gt := by
  have hnew : ∀ m ∈ s.l, m.1 ≠ (i : Int) + 1 := fun m hm => by
    obtain ⟨j, hj, _, e⟩ := num_le h hm
    omega
  have hnl : numsL (addN s a b bd).l = numsL s.l ++ [(i : Int) + 1] := by
    show numsL (s.l ++ [_]) = _
    simp [numsL, h.last]
  have hel : ((s.last : Int) + 1, a, b, bd) = ((i : Int) + 1, a, b, bd) := by rw [h.last]
  refine ⟨by show s.last + 1 = i + 1; rw [h.last], by simp [h.sl], fun j m hj => ?_, fun m hm => ?_, fun m hm => ?_, ?_, h.gl, fun j hj => ?_, fun j h1 h2 => h.rest j (by omega) h2, h.cl, ?_⟩
  · rcases Nat.lt_or_ge j snt.length with q | q
    · rw [List.getElem?_append_left q] at hj
      exact h.num j m hj
    · rw [List.getElem?_append_right q] at hj
      have : j - snt.length = 0 := by
        have := (List.getElem?_eq_some_iff.1 hj).1
        simp at this
        omega
      rw [this] at hj
      simp at hj
      subst hj
      show (i : Int) + 1 = (j : Int) + 1
      have := h.sl
      omega
  · rcases List.mem_append.1 hm with hm | hm
    · exact h.ok m hm
    · simp at hm
      subst hm
      exact ⟨ha, hb⟩
  · rcases List.mem_append.1 hm with hm | hm
    · obtain ⟨j, hj⟩ := h.mem m hm
      exact ⟨j, by rw [List.getElem?_append_left (List.getElem?_eq_some_iff.1 hj).1]; exact hj⟩
    · simp only [List.mem_singleton] at hm
      rw [hm, hel]
      exact ⟨i, by rw [List.getElem?_append_right (by rw [h.sl]; exact Nat.le_refl _), h.sl]; simp⟩
  · rw [hnl]
    refine List.nodup_append.2 ⟨h.nodup, by simp, fun x hx y hy => ?_⟩
    simp at hy
    subst hy
    obtain ⟨m, hm, rfl⟩ := List.mem_map.1 hx
    exact hnew m hm
  · rw [hnl]
    rcases Nat.lt_or_ge j i with q | q
    · rw [h.got j q]
      have e : ((j : Int) + 1 ∈ numsL s.l ++ [(i : Int) + 1]) ↔ ((j : Int) + 1 ∈ numsL s.l) := by
        rw [List.mem_append]
        constructor
        · rintro (x | x)
          · exact x
          · simp at x; omega
        · exact .inl
      simp only [e]
    · obtain rfl : j = i := by omega
      rw [h.rest j (Nat.le_refl _) hi, if_pos (by simp)]
  · show (s.l ++ [_]).length ≤ i + 1
    rw [List.length_append]
    have := h.ll
    simp; omega
theorem OnceI.cut {i c : Nat} {s : Nt} {snt : List Mg} {gt : List Int} (h : OnceI i c s snt gt) (a b : Int) : OnceI i (c + 1) { s with cuts := cutL s.cuts a b } snt gt :=
  ⟨h.last, h.sl, h.num, h.ok, h.mem, h.nodup, h.gl, h.got, h.rest, by
    have : (cutL s.cuts a b).length ≤ s.cuts.length + 1 := by
      unfold cutL
      split
      · omega
      · split
        · omega
        · simp
    have := h.cl
    show (cutL s.cuts a b).length ≤ c + 1
    omega, h.ll⟩
theorem OnceI.heal {i c : Nat} {s : Nt} {snt : List Mg} {gt : List Int} (h : OnceI i c s snt gt) (q : List Int) : OnceI i c (healN s q) snt gt :=
  ⟨h.last, h.sl, h.num, h.ok, h.mem, h.nodup, h.gl, h.got, h.rest, Nat.le_trans (List.length_filter_le _ _) h.cl, h.ll⟩
theorem OnceI.more {i c c' : Nat} {s : Nt} {snt : List Mg} {gt : List Int} (h : OnceI i c s snt gt) (hc : c ≤ c') : OnceI i c' s snt gt :=
  ⟨h.last, h.sl, h.num, h.ok, h.mem, h.nodup, h.gl, h.got, h.rest, Nat.le_trans h.cl hc, h.ll⟩
theorem nodup_erase : ∀ (l : List Mg) (k : Nat) (m : Mg), l[k]? = some m → (numsL l).Nodup → ∀ x, x ∈ numsL (l.eraseIdx k) ↔ (x ∈ numsL l ∧ x ≠ m.1)
  | [], k, m, h, _, x => by simp at h
  | a :: l, 0, m, h, hn, x => by
    simp at h
    subst h
    obtain ⟨h1, h2⟩ := List.nodup_cons.1 (show ((a.1) :: numsL l).Nodup from hn)
    show x ∈ numsL l ↔ (x ∈ a.1 :: numsL l ∧ x ≠ a.1)
    constructor
    · intro hx
      exact ⟨List.mem_cons_of_mem _ hx, fun e => h1 (e ▸ hx)⟩
    · rintro ⟨hx, hne⟩
      rcases List.mem_cons.1 hx with rfl | hx
      · exact absurd rfl hne
      · exact hx
  | a :: l, k + 1, m, h, hn, x => by
    obtain ⟨h1, h2⟩ := List.nodup_cons.1 (show ((a.1) :: numsL l).Nodup from hn)
    have ih := nodup_erase l k m (by simpa using h) h2 x
    have hm : m ∈ l := List.mem_of_getElem? (by simpa using h)
    show x ∈ a.1 :: numsL (l.eraseIdx k) ↔ (x ∈ a.1 :: numsL l ∧ x ≠ m.1)
    rw [List.mem_cons, List.mem_cons, ih]
    constructor
    · rintro (rfl | ⟨hx, hne⟩)
      · exact ⟨.inl rfl, fun e => h1 (e ▸ List.mem_map_of_mem hm)⟩
      · exact ⟨.inr hx, hne⟩
    · rintro ⟨rfl | hx, hne⟩
      · exact .inl rfl
      · exact .inr ⟨hx, hne⟩
theorem erase_nodup {l : List Mg} (h : (numsL l).Nodup) (k : Nat) : (numsL (l.eraseIdx k)).Nodup := by
  refine h.sublist ?_
  exact (List.eraseIdx_sublist l k).map _
theorem OnceI.take {i c : Nat} {s : Nt} {snt : List Mg} {gt : List Int} (h : OnceI i c s snt gt) (hi60 : i ≤ 60) {p : Int} {k : Nat} {m : Mg} (hp : pickO s p = some (k, m)) :
    ∃ j : Nat, j < i ∧ snt[j]? = some m ∧ m.1 = (j : Int) + 1 ∧ gt[j + 1]? = some 0 ∧ joinedB s.cuts m.2.1 m.2.2.1 = true ∧ okI m.2.1 ∧ okI m.2.2.1 ∧ s.l.length = (dropN s k).l.length + 1 ∧ OnceI i c (dropN s k) snt (gt.set (j + 1) 1) := by
  obtain ⟨_, h2, h3⟩ := pickO_some hp
  have hm := List.mem_of_getElem? h2
  have hk := (List.getElem?_eq_some_iff.1 h2).1
  obtain ⟨j, hj, hs, e⟩ := num_le h hm
  have hin : ((j : Int) + 1) ∈ numsL s.l := e ▸ List.mem_map_of_mem hm
  have hg0 : gt[j + 1]? = some 0 := by rw [h.got j hj, if_pos hin]
  have hd : ∀ x, x ∈ numsL (dropN s k).l ↔ (x ∈ numsL s.l ∧ x ≠ m.1) := nodup_erase s.l k m h2 h.nodup
  have hlen : s.l.length = (dropN s k).l.length + 1 := by
    show s.l.length = (s.l.eraseIdx k).length + 1
    rw [List.length_eraseIdx, if_pos hk]; omega
  refine ⟨j, hj, hs, e, hg0, h3, (h.ok m hm).1, (h.ok m hm).2, hlen, h.last, h.sl, h.num, fun x hx => h.ok x (List.mem_of_mem_eraseIdx hx), fun x hx => h.mem x (List.mem_of_mem_eraseIdx hx), erase_nodup h.nodup k, by simp [h.gl], fun t ht => ?_, fun t h1 h2 => ?_, h.cl, by have := h.ll; omega⟩
  · by_cases et : t = j
    · subst et
      rw [List.getElem?_set_self (by rw [h.gl]; omega), if_neg (fun q => ((hd _).1 q).2 e.symm)]
    · rw [List.getElem?_set_ne (by omega), h.got t ht]
      have : ((t : Int) + 1 ∈ numsL (dropN s k).l) ↔ ((t : Int) + 1 ∈ numsL s.l) := by
        rw [hd]
        exact ⟨fun q => q.1, fun q => ⟨q, by omega⟩⟩
      simp only [this]
  · rw [List.getElem?_set_ne (by omega)]
    exact h.rest t h1 h2
theorem OnceI.done {i c : Nat} {s : Nt} {snt : List Mg} {gt : List Int} (h : OnceI i c s snt gt) (hl : s.l = []) : ∀ j : Nat, j < i → gt[j + 1]? = some 1 := fun j hj => by
  rw [h.got j hj, hl]; rfl
theorem pick_nil {s : Nt} (hc : s.cuts = []) {p : Int} (hp : pickO s p = none) : s.l = [] := by
  have h1 := pickO_none hp
  rw [openI_nil hc] at h1
  cases hl : s.l with
  | nil => rfl
  | cons a r => rw [hl] at h1; simp at h1
end Go.Proofs.Ytmdoamkockoipaa
