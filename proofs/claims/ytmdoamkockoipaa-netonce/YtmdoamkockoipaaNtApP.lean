/- NetApart in plain words. -/
import Derived.Test.YtmdoamkockoipaaNtFull
import Derived.Laws.Bits128
namespace Go.Proofs.Ytmdoamkockoipaa
open Go.RowKit Go.Maps

def loI (n : Int) : Int := bits .and .i64 n 3
theorem loI_eq (n : Int) : loI n = n % 4 := by
  have h3 : (BitVec.ofInt 64 3).toNat = 2 ^ 2 - 1 := by decide
  have key : (BitVec.ofInt 64 n &&& BitVec.ofInt 64 3).toNat = (n % ((2 ^ 64 : Nat) : Int)).toNat % 2 ^ 2 := by
    rw [BitVec.toNat_and, BitVec.toNat_ofInt, h3, Nat.and_two_pow_sub_one_eq_mod]
  show IntKind.i64.wrap ((BitVec.ofInt 64 n &&& BitVec.ofInt 64 3).toNat : Nat) = n % 4
  rw [key, IntKind.wrap_i64]
  omega
theorem loI_ok (n : Int) : okI (loI n) := by
  rw [loI_eq]
  exact okI_small (by omega) (by omega)
def loP (p : Int × Int) : Int × Int := (loI p.1, loI p.2)
/-- Are two nodes cut off by one of these? -/
def cutB (a b : Int) : List (Int × Int) → Bool
  | [] => false
  | (c, d) :: r => (c != d && ((a == c && b == d) || (a == d && b == c))) || cutB a b r
theorem cutB_snoc (a b : Int) (l : List (Int × Int)) (c d : Int) : cutB a b (l ++ [(c, d)]) = (cutB a b l || (c != d && ((a == c && b == d) || (a == d && b == c)))) := by
  induction l with
  | nil => simp [cutB]
  | cons p l ih =>
    obtain ⟨x, y⟩ := p
    simp only [List.cons_append, cutB, ih, Bool.or_assoc]
theorem pairI_eq {a b c d : Int} : pairI a b = pairI c d ↔ (a = c ∧ b = d) ∨ (a = d ∧ b = c) := by
  unfold pairI
  split <;> split <;> simp only [Prod.mk.injEq] <;> omega
/-- Who is cut off behind these cuts. -/
def cutsL (l : List (Int × Int)) : List (Int × Int) := l.foldl (fun c p => cutL c p.1 p.2) []
theorem cutsL_snoc (l : List (Int × Int)) (c d : Int) : cutsL (l ++ [(c, d)]) = cutL (cutsL l) c d := by simp [cutsL]
theorem mem_cutL {c : List (Int × Int)} {x y : Int} {p : Int × Int} : p ∈ cutL c x y ↔ p ∈ c ∨ (x ≠ y ∧ p = pairI x y) := by
  unfold cutL
  by_cases h : x = y
  · simp [h]
  · rw [if_neg h]
    by_cases h2 : pairI x y ∈ c
    · rw [if_pos h2]
      constructor
      · exact .inl
      · rintro (q | ⟨_, rfl⟩)
        · exact q
        · exact h2
    · rw [if_neg h2]; simp [h]
theorem cutL_len (c : List (Int × Int)) (x y : Int) : (cutL c x y).length ≤ c.length + 1 := by
  unfold cutL
  split
  · omega
  · split
    · omega
    · simp
theorem joined_cuts (a b : Int) (l : List (Int × Int)) : joinedB (cutsL l) a b = !cutB a b l := by
  unfold joinedB
  congr 1
  suffices h : ∀ r : List (Int × Int), ∀ l : List (Int × Int), l = r.reverse → decide (pairI a b ∈ cutsL l) = cutB a b l from h l.reverse l (by simp)
  intro r
  induction r with
  | nil => rintro l rfl; rfl
  | cons p r ih =>
    rintro l rfl
    obtain ⟨c, d⟩ := p
    rw [List.reverse_cons, cutsL_snoc, cutB_snoc, ← ih _ rfl]
    have e : (c != d && ((a == c && b == d) || (a == d && b == c))) = decide (c ≠ d ∧ pairI a b = pairI c d) := by
      rw [Bool.eq_iff_iff]
      simp [pairI_eq]
    rw [e, ← Bool.decide_or]
    exact decide_eq_decide.2 mem_cutL
theorem cutsL_len (l : List (Int × Int)) : (cutsL l).length ≤ l.length := by
  suffices h : ∀ (l : List (Int × Int)) (c : List (Int × Int)), (l.foldl (fun c p => cutL c p.1 p.2) c).length ≤ c.length + l.length from by simpa [cutsL] using h l []
  intro l
  induction l with
  | nil => intro c; simp
  | cons p l ih =>
    intro c
    have h1 := ih (cutL c p.1 p.2)
    have h2 := cutL_len c p.1 p.2
    simp only [List.foldl_cons, List.length_cons]
    omega
def bX : ByteArray := ⟨#[120]⟩
/-- What is sent. -/
def sendAll (C : List (Int × Int)) (l : List (Int × Int)) : Nt := l.foldl (fun s p => addN s p.1 p.2 bX) ⟨[], 0, C⟩
theorem sendAll_snoc (C : List (Int × Int)) (l : List (Int × Int)) (p : Int × Int) : sendAll C (l ++ [p]) = addN (sendAll C l) p.1 p.2 bX := by simp [sendAll]
/-- How many may be delivered. -/
def mayN (C : List (Int × Int)) (l : List (Int × Int)) : Nat := (l.filter fun p => joinedB C p.1 p.2).length
theorem mayN_snoc (C : List (Int × Int)) (l : List (Int × Int)) (p : Int × Int) : mayN C (l ++ [p]) = mayN C l + if joinedB C p.1 p.2 then 1 else 0 := by
  unfold mayN
  rw [List.filter_append, List.length_append]
  congr 1
  by_cases h : joinedB C p.1 p.2 = true
  · simp [h]
  · simp [h]
structure SentOk (C : List (Int × Int)) (l : List (Int × Int)) (s : Nt) : Prop where
  len : s.l.length = l.length
  last : s.last = l.length
  cuts : s.cuts = C
  ok : OkS s
  may : (s.l.filter (mayB C)).length = mayN C l
theorem sent_ok (C : List (Int × Int)) (l : List (Int × Int)) (hl : ∀ p ∈ l, okP p) : SentOk C l (sendAll C l) := by
  suffices h : ∀ r : List (Int × Int), ∀ l : List (Int × Int), l = r.reverse → (∀ p ∈ l, okP p) → SentOk C l (sendAll C l) from h l.reverse l (by simp) hl
  intro r
  induction r with
  | nil => rintro l rfl _; exact ⟨rfl, rfl, rfl, (fun m hm => nomatch hm), rfl⟩
  | cons p r ih =>
    rintro l rfl hl
    have h := ih _ rfl fun q hq => hl q (by simp at hq ⊢; exact .inl hq)
    have hp := hl p (by simp)
    rw [List.reverse_cons, sendAll_snoc]
    refine ⟨by simp [addN, h.len], by simp [addN, h.last], h.cuts, fun m hm => ?_, ?_⟩
    · rcases List.mem_append.1 hm with hm | hm
      · exact h.ok m hm
      · simp at hm
        subst hm
        exact hp
    · rw [mayN_snoc, ← h.may]
      show (((sendAll C r.reverse).l ++ [_]).filter (mayB C)).length = _
      rw [List.filter_append, List.length_append]
      congr 1
      by_cases hj : joinedB C p.1 p.2 = true
      · rw [if_pos hj, List.filter_cons_of_pos (by exact hj)]; rfl
      · rw [if_neg hj, List.filter_cons_of_neg (by exact hj)]; rfl
theorem erase_filter {f : Mg → Bool} : ∀ (l : List Mg) (i : Nat) (m : Mg), l[i]? = some m → f m = true → ((l.eraseIdx i).filter f).length + 1 = (l.filter f).length
  | [], i, m, h, _ => by simp at h
  | a :: l, 0, m, h, hf => by
    simp at h
    subst h
    simp [hf]
  | a :: l, i + 1, m, h, hf => by
    have := erase_filter l i m (by simpa using h) hf
    by_cases ha : f a = true
    · simp [ha]; omega
    · simp [ha]; omega
theorem heal_all (c : List (Int × Int)) : healL [] c = [] := List.filter_eq_nil_iff.2 fun p _ => by simp [hitB, askB]
/-- Where the taking stands. -/
structure TakeR (C : List (Int × Int)) (all may i got : Nat) (s : Nt) : Prop where
  cuts : s.cuts = C
  ok : OkS s
  len : s.l.length + got = all
  may : (s.l.filter (mayB C)).length + got = may
  sure : got = i ∨ (s.l.filter (mayB C)).length = 0
theorem TakeR.none {C : List (Int × Int)} {all may i got : Nat} {s : Nt} (h : TakeR C all may i got s) {p : Int} (hp : pickO s p = none) : TakeR C all may (i + 1) got s := by
  have := pickO_none hp
  have e := openI_len s
  rw [this, h.cuts] at e
  exact ⟨h.cuts, h.ok, h.len, h.may, .inr e.symm⟩
theorem TakeR.some {C : List (Int × Int)} {all may i got : Nat} {s : Nt} (h : TakeR C all may i got s) {p : Int} {j : Nat} {m : Mg} (hp : pickO s p = some (j, m)) : TakeR C all may (i + 1) (got + 1) (dropN s j) := by
  obtain ⟨_, h2, h3⟩ := pickO_some hp
  rw [h.cuts] at h3
  have hj := (List.getElem?_eq_some_iff.1 h2).1
  have e1 := erase_filter s.l j m h2 h3
  have e2 : (s.l.eraseIdx j).length = s.l.length - 1 := by rw [List.length_eraseIdx, if_pos hj]
  have hl := h.len
  have hm := h.may
  refine ⟨h.cuts, fun x hx => h.ok x (List.mem_of_mem_eraseIdx hx), ?_, ?_, ?_⟩
  · show (s.l.eraseIdx j).length + (got + 1) = all
    omega
  · show ((s.l.eraseIdx j).filter (mayB C)).length + (got + 1) = may
    omega
  · rcases h.sure with q | q
    · exact .inl (by omega)
    · omega
theorem TakeR.done {C : List (Int × Int)} {all may got : Nat} {s : Nt} (h : TakeR C all may (all + 1) got s) : got = may ∧ (mayL (healN s [])).length = all - may ∧ OkS (healN s []) ∧ got ≤ all := by
  have hl := h.len
  have hm := h.may
  have hle : (s.l.filter (mayB C)).length ≤ s.l.length := List.length_filter_le _ _
  have hs := h.sure
  have e : (mayL (healN s [])).length = s.l.length := by
    rw [mayL_nil (s := healN s []) (heal_all _)]; rfl
  exact ⟨by omega, by omega, h.ok, by omega⟩
end Go.Proofs.Ytmdoamkockoipaa
