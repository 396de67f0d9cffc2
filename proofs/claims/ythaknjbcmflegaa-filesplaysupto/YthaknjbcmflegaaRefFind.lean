/- The document's disk: the bytes that are used, a file's place, what is asked of a name. -/
import Derived.Test.YthaknjbcmflegaaRefSmall
namespace Go.Proofs.Ythaknjbcmflegaa
open Go.RowKit Go.Maps Go.WideMaps

theorem used_take (fs : Fs) (k : Nat) (p : List UInt8 × Fl) (h : fs[k]? = some p) : used (fs.take (k + 1)) = used (fs.take k) + p.2.bytes.length := by
  induction fs generalizing k with
  | nil => simp at h
  | cons q r ih =>
    cases k with
    | zero => simp at h; subst h; simp [used]
    | succ k =>
      rw [List.take_succ_cons, List.take_succ_cons]
      simp only [used]
      rw [ih k (by simpa using h)]; omega
theorem used_take_le (fs : Fs) (k : Nat) : used (fs.take k) ≤ used fs := by
  induction fs generalizing k with
  | nil => simp
  | cons q r ih =>
    cases k with
    | zero => simp [used]
    | succ k =>
      rw [List.take_succ_cons]
      simp only [used]
      have := ih k; omega
/-- Where the files of the document's disk lie. -/
def RowsAt (w : World) (a : Option Addr) (fs : Fs) : Prop := ∀ (i : Nat) (p : List UInt8 × Fl), fs[i]? = some p → ∃ g, a = some ⟨g, 0, none⟩ ∧ ∀ (j : Nat) (u : Value), (flV p)[j]? = some u → w.cell? ⟨g, i * 3 + j, none⟩ = some u
theorem RefAt.rows {w : World} {N r : Nat} {S : Dk} (h : RefAt w N r S) : ∃ fs a c, S.fs = fs ∧ w.cell? ⟨r, 0, none⟩ = some (.slice a fs.length c) ∧ RowsAt w a fs := by
  obtain ⟨v, hH, hN, hR, hG⟩ := h
  obtain ⟨a, c, rfl, hrow⟩ := row63 hR rfl
  refine ⟨S.fs, a, c, rfl, hH.at 0 _ rfl, fun i p hi => ?_⟩
  rcases hrow with h0 | ⟨g, e, hc⟩
  · have := List.eq_nil_of_length_eq_zero h0; rw [this] at hi; simp at hi
  · exact ⟨g, e, hc i p hi⟩
set_option maxHeartbeats 800000 in
theorem rused_some (N r : Nat) (S : Dk) (w : World) (h : RefAt w N r S) : Calls Try.prog 10 #[.pointer (some ⟨r, 0, none⟩)] w fun e w' => e = .returned (.int .i64 (used S.fs : Int)) ∧ w' = w := by
  have hlen := h.good.len
  have hus := h.good.used
  obtain ⟨fs, a, c, hfs, c0, hrow⟩ := h.rows
  rw [hfs] at hlen hus ⊢
  have HF : Hid (RowsAt w a fs) := hrow
  obtain ⟨m, hm⟩ : ∃ m, fs.length = m := ⟨_, rfl⟩
  have M : Hid (fs.length = m) := hm
  rw [hm] at c0 hlen
  have U : Hid (used fs ≤ 16777216) := hus
  clear hrow hfs hm hus h
  go_enter Try.func10, Try.ntmps10
  go_wp2_with fail
  go_loopw [3, 4] (fun x c wr => ∃ k : Nat, k ≤ m ∧ c = .int .i64 (k : Int) ∧ x = .int .i64 (used (fs.take k) : Int) ∧ wr = w) (fun _ c _ => m - (intOf c).toNat)
  case atStart => exact ⟨0, by omega, rfl, rfl, rfl⟩
  case round =>
    obtain ⟨k, hk, rfl, rfl, rfl⟩ := hrel
    by_cases hlt : k < m
    · obtain ⟨p, hp⟩ : ∃ p, fs[k]? = some p := ⟨fs[k]'(by have := M.out; omega), List.getElem?_eq_getElem _⟩
      obtain ⟨g, rfl, hc⟩ := HF.out k p hp
      have c1 := hc 1 _ rfl
      have hs := used_take fs k p hp
      have hu := used_take_le fs (k + 1)
      have hU := U.out
      have hz := strL_size p.2.bytes
      have hw1 : wrap64 ((used (fs.take k) : Int) + ((strL p.2.bytes).size : Int)) = (used (fs.take k) : Int) + ((strL p.2.bytes).size : Int) := by unfold wrap64; omega
      go_wp2
      refine ⟨⟨k + 1, by omega, rfl, ?_, (by first | trivial | rfl)⟩, by simp; omega⟩
      rw [hs]; simp
    · obtain rfl : k = m := by omega
      have hall : used (fs.take k) = used fs := by rw [← M.out, List.take_length]
      rw [hall]
      go_wp2
      go_ret
      exact ⟨rfl, rfl⟩

def atI (fs : Fs) (k : List UInt8) : Int := match fs.findIdx? (fun p => p.1 == k) with | some i => (i : Int) | none => -1
theorem atI_at {fs : Fs} {k : List UInt8} {i : Nat} {p : List UInt8 × Fl} (h : fs[i]? = some p) (he : p.1 = k) (hno : ∀ (j : Nat) (q : List UInt8 × Fl), j < i → fs[j]? = some q → ¬ q.1 = k) : atI fs k = (i : Int) := by
  have : fs.findIdx? (fun p => p.1 == k) = some i := by
    rw [List.findIdx?_eq_some_iff_getElem]
    have hl := (List.getElem?_eq_some_iff.1 h).1
    refine ⟨hl, ?_, fun j hj => ?_⟩
    · have := (List.getElem?_eq_some_iff.1 h).2
      rw [this]; simpa using he
    · have := hno j _ hj (List.getElem?_eq_getElem (by omega))
      simpa using this
  rw [atI, this]
theorem atI_none {fs : Fs} {k : List UInt8} (hno : ∀ (j : Nat) (q : List UInt8 × Fl), fs[j]? = some q → ¬ q.1 = k) : atI fs k = -1 := by
  have : fs.findIdx? (fun p => p.1 == k) = none := by
    rw [List.findIdx?_eq_none_iff]
    intro q hq
    obtain ⟨j, hj⟩ := List.getElem?_of_mem hq
    simpa using hno j q hj
  rw [atI, this]
theorem atI_of_none {fs : Fs} {k : List UInt8} (h : get fs k = none) : atI fs k = -1 := atI_none fun j q hq e => by
  have : (get fs k).isSome = true := (get_isSome fs k).2 (List.mem_map.2 ⟨q, List.mem_of_getElem? hq, e⟩)
  rw [h] at this; cases this
theorem atI_of_some {fs : Fs} {k : List UInt8} {f : Fl} (hr : Rising fs) (h : get fs k = some f) : ∃ i : Nat, i < fs.length ∧ atI fs k = (i : Int) ∧ fs[i]? = some (k, f) := by
  obtain ⟨i, hi⟩ := List.getElem?_of_mem (get_mem h)
  refine ⟨i, (List.getElem?_eq_some_iff.1 hi).1, atI_at hi rfl (fun j q hj hq e => ?_), hi⟩
  have hjl := (List.getElem?_eq_some_iff.1 hq).1
  have hil := (List.getElem?_eq_some_iff.1 hi).1
  have hlt := List.pairwise_iff_getElem.1 hr j i hjl hil hj
  rw [(List.getElem?_eq_some_iff.1 hq).2, (List.getElem?_eq_some_iff.1 hi).2, e] at hlt
  exact List.lt_irrefl _ hlt
theorem eqStr (l : List UInt8) (s : ByteArray) : ((strL l).toList == s.toList) = (l == s.data.toList) := by
  rw [Go.ByteArray.toList_eq, Go.ByteArray.toList_eq]; simp [strL]
theorem eq_yes {l : List UInt8} {s : ByteArray} (h : l = s.data.toList) : ((strL l).toList == s.toList) = true := by rw [eqStr]; simpa using h
theorem eq_no {l : List UInt8} {s : ByteArray} (h : ¬ l = s.data.toList) : ((strL l).toList == s.toList) = false := by rw [eqStr]; simpa using h
theorem ne_yes {l : List UInt8} {s : ByteArray} (h : l = s.data.toList) : ((strL l).toList != s.toList) = false := by rw [bne, eq_yes h]; rfl
theorem ne_no {l : List UInt8} {s : ByteArray} (h : ¬ l = s.data.toList) : ((strL l).toList != s.toList) = true := by rw [bne, eq_no h]; rfl
set_option maxHeartbeats 800000 in
theorem rat_some (N r : Nat) (S : Dk) (s : ByteArray) (w : World) (h : RefAt w N r S) : Calls Try.prog 45 #[.pointer (some ⟨r, 0, none⟩), .string s] w fun e w' => e = .returned (.int .i64 (atI S.fs s.data.toList)) ∧ w' = w := by
  have hlen := h.good.len
  obtain ⟨fs, a, c, hfs, c0, hrow⟩ := h.rows
  rw [hfs] at hlen ⊢
  have HF : Hid (RowsAt w a fs) := hrow
  obtain ⟨m, hm⟩ : ∃ m, fs.length = m := ⟨_, rfl⟩
  have M : Hid (fs.length = m) := hm
  rw [hm] at c0 hlen
  clear hrow hfs hm h
  go_enter Try.func45, Try.ntmps45
  go_wp2_with fail
  go_loopw [5] (fun c wr => ∃ k : Nat, k ≤ m ∧ c = .int .i64 (k : Int) ∧ Hid (∀ (j : Nat) (p : List UInt8 × Fl), j < k → fs[j]? = some p → ¬ p.1 = s.data.toList) ∧ wr = w) (fun c _ => m - (intOf c).toNat)
  case atStart => exact ⟨0, by omega, rfl, fun j p hj => (by omega), rfl⟩
  case round =>
    obtain ⟨k, hk, rfl, hno, rfl⟩ := hrel
    by_cases hlt : k < m
    · obtain ⟨p, hp⟩ : ∃ p, fs[k]? = some p := ⟨fs[k]'(by have := M.out; omega), List.getElem?_eq_getElem _⟩
      obtain ⟨g, rfl, hc⟩ := HF.out k p hp
      have c1 := hc 0 _ rfl
      simp only [Nat.add_zero] at c1
      by_cases he : p.1 = s.data.toList
      · have e1 := eq_yes he
        have hq : Hid (atI fs s.data.toList = (k : Int)) := atI_at hp he hno.out
        clear hc hno hp he
        generalize strL p.1 = q at *
        go_wp2
        go_ret
        exact ⟨by rw [hq.out]; rfl, rfl⟩
      · have e1 := eq_no he
        have hno2 : Hid (∀ (j : Nat) (p : List UInt8 × Fl), j < k + 1 → fs[j]? = some p → ¬ p.1 = s.data.toList) := fun j q hj hq => by
          by_cases hjk : j < k
          · exact hno.out j q hjk hq
          · obtain rfl : j = k := by omega
            rw [hp] at hq; cases hq; exact he
        clear hc hno hp he
        generalize strL p.1 = q at *
        go_wp2
        exact ⟨⟨k + 1, by omega, rfl, hno2, (by first | trivial | rfl)⟩, by simp; omega⟩
    · obtain rfl : k = m := by omega
      have hq : Hid (atI fs s.data.toList = -1) := atI_none (fun j q hq => hno.out j q (by have := (List.getElem?_eq_some_iff.1 hq).1; have := M.out; omega) hq)
      go_wp2
      go_ret
      exact ⟨by rw [hq.out]; rfl, rfl⟩

/-- What is asked of a name. -/
def askE (S : Dk) (s : ByteArray) (there : Bool) : Int := if there = true then foundE S s else namedE S [s]
set_option maxHeartbeats 800000 in
theorem rask_some (N r : Nat) (S : Dk) (s : ByteArray) (hs : s.size < 9223372036854775808) (there : Bool) (w : World) (h : RefAt w N r S) : Calls Try.prog 44 #[.pointer (some ⟨r, 0, none⟩), .string s, .bool there] w fun e w' => e = .returned (.int .i64 (askE S s there)) ∧ w' = w := by
  have hnm : Hid (∀ W, Calls Try.prog 62 #[.string s] W fun e w' => e = .returned (.bool (nameOk s)) ∧ w' = W) := fun W => refName_any s hs W
  have hat : Hid (Calls Try.prog 45 #[.pointer (some ⟨r, 0, none⟩), .string s] w fun e w' => e = .returned (.int .i64 (atI S.fs s.data.toList)) ∧ w' = w) := rat_some N r S s w h
  have c3 : w.cell? ⟨r, 3, none⟩ = some (.bool (!S.on)) := by
    obtain ⟨v, hH, _⟩ := h
    exact hH.at 3 _ rfl
  cases hon : S.on with
  | false =>
    have e0 : askE S s there = 23 := by
      cases there
      · rw [askE, if_neg (by decide), namedE, if_neg (by rw [hon]; decide)]
      · rw [askE, if_pos rfl, foundE, if_neg (by rw [hon]; decide)]
    rw [e0]
    rw [hon] at c3
    clear e0 h hat
    go_enter Try.func44, Try.ntmps44
    go_wp2_with (go_at_call 62; refine (hnm.out _).mono ?_; rintro e w2 ⟨rfl, rfl⟩)
    go_ret
    exact ⟨rfl, rfl⟩
  | true =>
    rw [hon] at c3
    cases hok : nameOk s with
    | false =>
      have e0 : askE S s there = 20 := by
        cases there
        · rw [askE, if_neg (by decide), namedE, if_pos hon]; exact namE_no (by simp [hok])
        · rw [askE, if_pos rfl, foundE, if_pos hon, if_neg (by rw [hok]; decide)]
      rw [e0]
      rw [hok] at hnm
      clear e0 h hat
      go_enter Try.func44, Try.ntmps44
      go_wp2_with (go_at_call 62; refine (hnm.out _).mono ?_; rintro e w2 ⟨rfl, rfl⟩)
      go_ret
      exact ⟨rfl, rfl⟩
    | true =>
      rw [hok] at hnm
      cases there with
      | false =>
        rw [show askE S s false = 0 by rw [askE, if_neg (by decide)]; exact named_one hon hok]
        clear h hat
        go_enter Try.func44, Try.ntmps44
        go_wp2_with (go_at_call 62; refine (hnm.out _).mono ?_; rintro e w2 ⟨rfl, rfl⟩)
        go_ret
        exact ⟨rfl, rfl⟩
      | true =>
        cases hg : get S.fs s.data.toList with
        | none =>
          rw [show askE S s true = 21 by rw [askE, if_pos rfl, foundE, if_pos hon, if_pos hok, hg]; rfl]
          rw [atI_of_none hg] at hat
          clear h hg
          go_enter Try.func44, Try.ntmps44
          go_wp2_with (first
            | (go_at_call 62; refine (hnm.out _).mono ?_; rintro e w2 ⟨rfl, rfl⟩)
            | (go_at_call 45; refine hat.out.mono ?_; rintro e w2 ⟨rfl, rfl⟩))
          go_ret
          exact ⟨rfl, rfl⟩
        | some f =>
          rw [show askE S s true = 0 by rw [askE, if_pos rfl, foundE, if_pos hon, if_pos hok, hg]; rfl]
          obtain ⟨i, hi, hi2, _⟩ := atI_of_some h.good.rise hg
          rw [hi2] at hat
          clear h hg hi2
          go_enter Try.func44, Try.ntmps44
          go_wp2_with (first
            | (go_at_call 62; refine (hnm.out _).mono ?_; rintro e w2 ⟨rfl, rfl⟩)
            | (go_at_call 45; refine hat.out.mono ?_; rintro e w2 ⟨rfl, rfl⟩))
          go_ret
          exact ⟨rfl, rfl⟩
end Go.Proofs.Ythaknjbcmflegaa
