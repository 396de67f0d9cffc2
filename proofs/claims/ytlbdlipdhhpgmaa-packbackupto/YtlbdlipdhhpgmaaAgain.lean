/- A thing that was laid down is taken up again, whatever its kind; cut short it is ErrShort. -/
import Derived.Test.YtlbdlipdhhpgmaaNormal
import Derived.Test.YtlbdlipdhhpgmaaBack
import Derived.Test.YtlbdlipdhhpgmaaTook
import Derived.Test.YtlbdlipdhhpgmaaBulk
namespace Go.Proofs.Ytlbdlipdhhpgmaa
open Go.RowKit

/-- What take leaves of a text at a thing: the error, the rest, the number, the text. -/
def tkE (u : ByteArray) (t : Th) : Int := if t.kind = 1 then nE u else if t.kind = 2 then fE u else if t.kind = 3 then textE u else if t.kind = 4 then rawE u (t.s.size : Int) else nE u
def tkR (u : ByteArray) (t : Th) : ByteArray := if t.kind = 1 then nR u else if t.kind = 2 then fR u else if t.kind = 3 then textR u else if t.kind = 4 then rawR u (t.s.size : Int) else nR u
def tkN (u : ByteArray) (t : Th) : Int := if t.kind = 1 then IntKind.u64.wrap (intV (nV u)) else if t.kind = 2 then (if flV u then 1 else 0) else if t.kind = 3 then 0 else if t.kind = 4 then 0 else (nV u : Int)
def tkS (u : ByteArray) (t : Th) : ByteArray := if t.kind = 1 then ⟨#[]⟩ else if t.kind = 2 then ⟨#[]⟩ else if t.kind = 3 then txV u else if t.kind = 4 then rwV u (t.s.size : Int) else ⟨#[]⟩

theorem took_th (b : Nat) (u : ByteArray) (hs : u.size < 9223372036854775808) (t : Th) (h5 : ¬ t.kind = 5) (w : World) (hr : Rd w b u 0) :
    Calls Try.prog 19 #[.pointer (some ⟨b, 0, none⟩), .agg #[.int .i64 t.kind, .int .i64 t.least, .int .u64 (t.n : Int), .string t.s]] w (TookP b t.kind t.least (tkN u t) (tkS u t) (tkE u t) (tkR u t) w) := by
  obtain ⟨k, l, n, s⟩ := t
  simp only [tkN, tkS, tkE, tkR] at h5 ⊢
  by_cases h1 : k = 1
  · subst h1
    simp only [if_pos]
    exact took_int b u hs l n s w hr
  by_cases h2 : k = 2
  · subst h2
    have e1 : ¬ ((2 : Int) = 1) := by decide
    simp only [if_neg e1, if_pos]
    exact took_flag b u l n s w hr
  by_cases h3 : k = 3
  · subst h3
    have e1 : ¬ ((3 : Int) = 1) := by decide
    have e2 : ¬ ((3 : Int) = 2) := by decide
    simp only [if_neg e1, if_neg e2, if_pos]
    exact took_text b u hs l n s w hr
  by_cases h4 : k = 4
  · subst h4
    have e1 : ¬ ((4 : Int) = 1) := by decide
    have e2 : ¬ ((4 : Int) = 2) := by decide
    have e3 : ¬ ((4 : Int) = 3) := by decide
    simp only [if_neg e1, if_neg e2, if_neg e3, if_pos]
    exact took_raw b u hs l n s w hr
  · simp only [if_neg h1, if_neg h2, if_neg h3, if_neg h4]
    exact took_num b u hs k h1 h2 h3 h4 h5 l n s w hr

theorem u64_wrap64 (n : Nat) (h : n < 18446744073709551616) : IntKind.u64.wrap (wrap64 (n : Int)) = (n : Int) := by
  rw [wrap_u64]
  unfold wrap64
  omega
theorem back_th (u : ByteArray) (t : Th) (hok : t.Ok) (r : List UInt8) (hu : u.data.toList = thB t ++ r) :
    tkE u t = 0 ∧ tkN u t = norN t.kind t.n ∧ tkS u t = norS t.kind t.s ∧ (tkR u t).data.toList = r := by
  have hn := hok.n
  have hs := hok.s
  unfold maxLen at hs
  obtain ⟨k, l, n, s⟩ := t
  simp only [tkN, tkS, tkE, tkR, thB, thL, norN, norS] at hn hs hu ⊢
  by_cases h1 : k = 1
  · subst h1
    rw [if_pos rfl] at hu
    obtain ⟨e1, e2, e3⟩ := back_int u _ (wrap64_fits _) r hu
    have a2 : ¬ ((1 : Int) = 2) := by decide
    have a3 : ¬ ((1 : Int) = 3) := by decide
    have a4 : ¬ ((1 : Int) = 4) := by decide
    simp only [if_pos, if_neg a2, if_neg a3, if_neg a4]
    exact ⟨e1, by rw [e2, u64_wrap64 n hn], trivial, e3⟩
  by_cases h2 : k = 2
  · subst h2
    have a1 : ¬ ((2 : Int) = 1) := by decide
    simp only [if_neg a1, if_pos] at hu ⊢
    obtain ⟨e1, e2, e3⟩ := back_flag u _ r hu
    refine ⟨e1, ?_, trivial, e3⟩
    rw [e2]
    rcases Int.emod_two_eq (n : Int) with h | h <;> rw [h] <;> rfl
  by_cases h3 : k = 3
  · subst h3
    have a1 : ¬ ((3 : Int) = 1) := by decide
    have a2 : ¬ ((3 : Int) = 2) := by decide
    simp only [if_neg a1, if_neg a2, if_pos] at hu ⊢
    obtain ⟨e1, e2, e3⟩ := back_text u s (by omega) r hu
    exact ⟨e1, trivial, e2, e3⟩
  by_cases h4 : k = 4
  · subst h4
    have a1 : ¬ ((4 : Int) = 1) := by decide
    have a2 : ¬ ((4 : Int) = 2) := by decide
    have a3 : ¬ ((4 : Int) = 3) := by decide
    simp only [if_neg a1, if_neg a2, if_neg a3, if_pos] at hu ⊢
    obtain ⟨e1, e2, e3⟩ := back_raw u s r hu
    exact ⟨e1, trivial, e2, e3⟩
  · simp only [if_neg h1, if_neg h2, if_neg h3, if_neg h4] at hu ⊢
    obtain ⟨e1, e2, e3⟩ := behind u n hn r hu
    exact ⟨e1, by rw [e2], trivial, e3⟩
theorem short_th (u : ByteArray) (t : Th) (hok : t.Ok) (j : Nat) (hj : j < (thB t).length) (hu : u.data.toList = (thB t).take j) : tkE u t = 10 := by
  have hn := hok.n
  have hs := hok.s
  unfold maxLen at hs
  obtain ⟨k, l, n, s⟩ := t
  simp only [tkE, thB, thL] at hn hs hj hu ⊢
  by_cases h1 : k = 1
  · subst h1
    rw [if_pos rfl] at hj hu ⊢
    exact short_num u _ (zig_lt _ (wrap64_fits _)) j hj hu
  by_cases h2 : k = 2
  · subst h2
    have a1 : ¬ ((2 : Int) = 1) := by decide
    simp only [if_neg a1, if_pos] at hj hu ⊢
    exact short_flag u _ j hj hu
  by_cases h3 : k = 3
  · subst h3
    have a1 : ¬ ((3 : Int) = 1) := by decide
    have a2 : ¬ ((3 : Int) = 2) := by decide
    simp only [if_neg a1, if_neg a2, if_pos] at hj hu ⊢
    exact short_text u s (by omega) j hj hu
  by_cases h4 : k = 4
  · subst h4
    have a1 : ¬ ((4 : Int) = 1) := by decide
    have a2 : ¬ ((4 : Int) = 2) := by decide
    have a3 : ¬ ((4 : Int) = 3) := by decide
    simp only [if_neg a1, if_neg a2, if_neg a3, if_pos] at hj hu ⊢
    exact short_raw u s j hj hu
  · simp only [if_neg h1, if_neg h2, if_neg h3, if_neg h4] at hj hu ⊢
    exact short_num u n hn j hj hu

/-- Numbers in the place of counts. -/
def plT (t : Th) : Th := if t.kind = 5 then ⟨0, t.least, t.n, t.s⟩ else t
theorem plT_ok {t : Th} (h : t.Ok) : (plT t).Ok := by
  unfold plT
  split
  · exact ⟨(by decide : -9223372036854775808 ≤ (0 : Int) ∧ (0 : Int) < 9223372036854775808), h.least, h.n, h.s⟩
  · exact h
theorem plT_kind (t : Th) : ¬ (plT t).kind = 5 := by
  unfold plT
  split
  · exact (by decide : ¬ (0 : Int) = 5)
  · assumption

/-- How the bytes of things stand behind so many of them, cut at C. -/
theorem drop_flat (ts : List Th) (k : Nat) (t : Th) (h : ts[k]? = some t) : (ts.drop k).flatMap thB = thB t ++ (ts.drop (k + 1)).flatMap thB := by
  have hk := (List.getElem?_eq_some_iff.1 h).1
  rw [List.drop_eq_getElem_cons hk, List.flatMap_cons, (List.getElem?_eq_some_iff.1 h).2]
/-- A reader on the way through the bytes of things cut at C. -/
def OnWay (ts : List Th) (C k : Nat) (u : ByteArray) (E : Int) : Prop :=
  (E = 0 ∧ ((ts.take k).flatMap thB).length ≤ C ∧ u.data.toList = ((ts.drop k).flatMap thB).take (C - ((ts.take k).flatMap thB).length)) ∨ E = 10
theorem OnWay.step {ts : List Th} {C k : Nat} {u : ByteArray} {t : Th} (h : OnWay ts C k u 0) (ht : ts[k]? = some t) (hok : t.Ok) : OnWay ts C (k + 1) (restR (tkE u t) (tkR u t)) (tkE u t) := by
  rcases h with ⟨_, hle, hu⟩ | h
  · rw [drop_flat ts k t ht] at hu
    have hfl : ((ts.take (k + 1)).flatMap thB).length = ((ts.take k).flatMap thB).length + (thB t).length := by
      rw [List.take_add_one, ht, List.flatMap_append, List.length_append]
      simp
    by_cases hj : C - ((ts.take k).flatMap thB).length < (thB t).length
    · rw [List.take_append_of_le_length (by omega)] at hu
      exact .inr (short_th u t hok _ hj hu)
    · rw [List.take_append, List.take_of_length_le (by omega)] at hu
      obtain ⟨e1, _, _, e4⟩ := back_th u t hok _ hu
      refine .inl ⟨e1, by omega, ?_⟩
      rw [e1, restR, if_pos rfl, e4, hfl]
      congr 1
      omega
  · cases h
theorem OnWay.last {ts : List Th} {C : Nat} {u : ByteArray} {E : Int} (h : OnWay ts C ts.length u E) (hC : C < (ts.flatMap thB).length) : E = 10 := by
  rcases h with ⟨_, hle, _⟩ | h
  · rw [List.take_length] at hle; omega
  · exact h
end Go.Proofs.Ytlbdlipdhhpgmaa
