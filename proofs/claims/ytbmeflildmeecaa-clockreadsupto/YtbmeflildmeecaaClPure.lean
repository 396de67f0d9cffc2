/- A clock as a list of dots: an actor's N, what is right, Norm, and what is left of a sorted row when neighbours of one actor are dropped. -/
import Derived.Test.YtbmeflildmeecaaLaws
namespace Go.Proofs.Ytbmeflildmeecaa

abbrev Dt := Nat × Nat
def getN (l : List Dt) (a : Nat) : Nat := l.foldr (fun d n => if d.1 = a then max d.2 n else n) 0
@[simp] theorem getN_nil (a : Nat) : getN [] a = 0 := rfl
theorem getN_cons (d : Dt) (l : List Dt) (a : Nat) : getN (d :: l) a = if d.1 = a then max d.2 (getN l a) else getN l a := rfl
theorem getN_append (l m : List Dt) (a : Nat) : getN (l ++ m) a = max (getN l a) (getN m a) := by
  induction l with
  | nil => simp
  | cons d l ih => rw [List.cons_append, getN_cons, getN_cons, ih]; split <;> omega
theorem getN_one (d : Dt) (a : Nat) : getN [d] a = if d.1 = a then d.2 else 0 := by rw [getN_cons]; simp
def posD (l : List Dt) : List Dt := l.filter (fun d => 0 < d.2)
theorem posD_append (l m : List Dt) : posD (l ++ m) = posD l ++ posD m := by simp [posD]
theorem getN_pos (l : List Dt) (a : Nat) : getN (posD l) a = getN l a := by
  induction l with
  | nil => rfl
  | cons d l ih =>
    have : posD (d :: l) = if 0 < d.2 then d :: posD l else posD l := by simp only [posD, List.filter_cons]; split <;> simp_all
    rw [this]
    split
    · rw [getN_cons, getN_cons, ih]
    · rw [getN_cons, ih]; split <;> omega
theorem getN_perm {l m : List Dt} (h : l.Perm m) (a : Nat) : getN l a = getN m a := by
  induction h with
  | nil => rfl
  | cons x _ ih => rw [getN_cons, getN_cons, ih]
  | swap x y l => simp only [getN_cons]; split <;> split <;> omega
  | trans _ _ h1 h2 => exact h1.trans h2
theorem getN_ge {l : List Dt} {d : Dt} (h : d ∈ l) : d.2 ≤ getN l d.1 := by
  induction l with
  | nil => cases h
  | cons e l ih =>
    rw [getN_cons]
    rcases List.mem_cons.1 h with rfl | h
    · simp; omega
    · have := ih h; split <;> omega
theorem getN_none {l : List Dt} {a : Nat} (h : ∀ e ∈ l, e.1 ≠ a) : getN l a = 0 := by
  induction l with
  | nil => rfl
  | cons e l ih => rw [getN_cons, if_neg (h e (by simp)), ih (fun x hx => h x (by simp [hx]))]
theorem getN_mem {l : List Dt} {a : Nat} (h : 0 < getN l a) : (a, getN l a) ∈ l := by
  induction l with
  | nil => simp at h
  | cons e l ih =>
    rw [getN_cons] at h ⊢
    split
    · rename_i g
      rw [if_pos g] at h
      rcases Nat.le_total (getN l a) e.2 with q | q
      · rw [Nat.max_eq_left q, ← g]; simp
      · rw [Nat.max_eq_right q] at h ⊢; exact List.mem_cons_of_mem _ (ih h)
    · rename_i g
      rw [if_neg g] at h
      exact List.mem_cons_of_mem _ (ih h)
theorem getN_lt {l : List Dt} {a B : Nat} (hB : 0 < B) (h : ∀ d ∈ l, d.2 < B) : getN l a < B := by
  rcases Nat.eq_zero_or_pos (getN l a) with g | g
  · omega
  · exact h _ (getN_mem g)

/-- A clock is right. -/
def Right (c : List Dt) : Prop := c.Pairwise (fun x y => x.1 < y.1) ∧ ∀ d ∈ c, 0 < d.2
theorem Right.tail {d : Dt} {c : List Dt} (h : Right (d :: c)) : Right c := ⟨(List.pairwise_cons.1 h.1).2, fun x hx => h.2 x (by simp [hx])⟩
theorem Right.above {d : Dt} {c : List Dt} (h : Right (d :: c)) : ∀ e ∈ c, d.1 < e.1 := (List.pairwise_cons.1 h.1).1
theorem Right.head {d : Dt} {c : List Dt} (h : Right (d :: c)) : getN (d :: c) d.1 = d.2 := by
  rw [getN_cons, if_pos rfl, getN_none (fun e he => by have := h.above e he; omega)]; omega
theorem right_ext : ∀ {c e : List Dt}, Right c → Right e → (∀ a, getN c a = getN e a) → c = e
  | [], [], _, _, _ => rfl
  | [], y :: e, _, he, h => by have := h y.1; rw [he.head] at this; have := he.2 y (by simp); simp at *; omega
  | x :: c, [], hc, _, h => by have := h x.1; rw [hc.head] at this; have := hc.2 x (by simp); simp at *; omega
  | x :: c, y :: e, hc, he, h => by
    have px := hc.2 x (by simp)
    have py := he.2 y (by simp)
    have h1 := h x.1
    have h2 := h y.1
    rw [hc.head] at h1
    rw [he.head] at h2
    have hxy : x.1 = y.1 := by
      rcases Nat.lt_trichotomy x.1 y.1 with g | g | g
      · rw [getN_cons, if_neg (by omega), getN_none (fun z hz => by have := he.above z hz; omega)] at h1; omega
      · exact g
      · rw [getN_cons, if_neg (by omega), getN_none (fun z hz => by have := hc.above z hz; omega)] at h2; omega
    have h3 : x.2 = y.2 := by rw [hxy, he.head] at h1; exact h1
    have : c = e := right_ext hc.tail he.tail (fun a => by
      rcases Nat.lt_trichotomy a x.1 with g | g | g
      · rw [getN_none (fun z hz => by have := hc.above z hz; omega), getN_none (fun z hz => by have := he.above z hz; omega)]
      · rw [getN_none (fun z hz => by have := hc.above z hz; omega), getN_none (fun z hz => by have := he.above z hz; omega)]
      · have := h a; rw [getN_cons, getN_cons, if_neg (by omega), if_neg (by omega)] at this; exact this)
    rw [this, Prod.ext hxy h3]

def insD (d : Dt) : List Dt → List Dt
  | [] => [d]
  | e :: c => if d.1 < e.1 then d :: e :: c else if d.1 = e.1 then (e.1, max d.2 e.2) :: c else e :: insD d c
/-- Norm: of each actor one dot, with its greatest N, by rising actors. -/
def norm (l : List Dt) : List Dt := (posD l).foldr insD []
theorem getN_ins (d : Dt) (c : List Dt) (a : Nat) : getN (insD d c) a = if d.1 = a then max d.2 (getN c a) else getN c a := by
  induction c with
  | nil => rw [insD, getN_cons]
  | cons e c ih =>
    rw [insD]
    split
    · rw [getN_cons]
    · split
      · rename_i g
        simp only [getN_cons, g]
        split <;> omega
      · rw [getN_cons, getN_cons, ih]
        split <;> split <;> omega
theorem ins_mem {d : Dt} {c : List Dt} {x : Dt} (h : x ∈ insD d c) : x.1 = d.1 ∨ ∃ e ∈ c, x.1 = e.1 := by
  induction c with
  | nil => simp [insD] at h; exact .inl (by rw [h])
  | cons e c ih =>
    rw [insD] at h
    split at h
    · rcases List.mem_cons.1 h with rfl | h
      · exact .inl rfl
      · exact .inr ⟨x, h, rfl⟩
    · split at h
      · rcases List.mem_cons.1 h with rfl | h
        · exact .inr ⟨e, by simp, rfl⟩
        · exact .inr ⟨x, by simp [h], rfl⟩
      · rcases List.mem_cons.1 h with rfl | h
        · exact .inr ⟨x, by simp, rfl⟩
        · rcases ih h with g | ⟨y, hy, g⟩
          · exact .inl g
          · exact .inr ⟨y, by simp [hy], g⟩
theorem right_ins {d : Dt} (hd : 0 < d.2) : ∀ {c : List Dt}, Right c → Right (insD d c)
  | [], _ => ⟨by simp [insD], by simpa [insD] using hd⟩
  | e :: c, h => by
    have he := h.2 e (by simp)
    rw [insD]
    split
    · rename_i g
      refine ⟨List.pairwise_cons.2 ⟨fun x hx => ?_, h.1⟩, fun x hx => ?_⟩
      · rcases List.mem_cons.1 hx with rfl | hx
        · exact g
        · exact Nat.lt_trans g (h.above x hx)
      · rcases List.mem_cons.1 hx with rfl | hx
        · exact hd
        · exact h.2 x hx
    · split
      · refine ⟨List.pairwise_cons.2 ⟨fun x hx => h.above x hx, h.tail.1⟩, fun x hx => ?_⟩
        rcases List.mem_cons.1 hx with rfl | hx
        · show 0 < max d.2 e.2; omega
        · exact h.tail.2 x hx
      · rename_i g1 g2
        have hi := right_ins hd h.tail
        refine ⟨List.pairwise_cons.2 ⟨fun x hx => ?_, hi.1⟩, fun x hx => ?_⟩
        · rcases ins_mem hx with g | ⟨y, hy, g⟩
          · show e.1 < x.1; omega
          · have := h.above y hy; show e.1 < x.1; omega
        · rcases List.mem_cons.1 hx with rfl | hx
          · exact he
          · exact hi.2 x hx
theorem norm_right (l : List Dt) : Right (norm l) := by
  have : ∀ m : List Dt, (∀ d ∈ m, 0 < d.2) → Right (m.foldr insD []) := by
    intro m
    induction m with
    | nil => intro _; exact ⟨by simp, by simp⟩
    | cons d m ih => intro h; exact right_ins (h d (by simp)) (ih (fun x hx => h x (by simp [hx])))
  exact this _ (fun d hd => by simpa [posD] using (List.mem_filter.1 hd).2)
theorem getN_norm (l : List Dt) (a : Nat) : getN (norm l) a = getN l a := by
  have : ∀ m : List Dt, getN (m.foldr insD []) a = getN m a := by
    intro m
    induction m with
    | nil => rfl
    | cons d m ih => rw [List.foldr_cons, getN_ins, ih, getN_cons]
  rw [norm, this, getN_pos]
theorem norm_of {c l : List Dt} (h : Right c) (g : ∀ a, getN c a = getN l a) : c = norm l := right_ext h (norm_right l) (fun a => by rw [g, getN_norm])
theorem norm_eq {c l : List Dt} (h : ∀ a, getN c a = getN l a) : norm c = norm l := norm_of (norm_right c) (fun a => by rw [getN_norm, h])
theorem norm_id {c : List Dt} (h : Right c) : norm c = c := (norm_of h (fun _ => rfl)).symm
theorem norm_iff {c l : List Dt} : norm c = norm l ↔ ∀ a, getN c a = getN l a := ⟨fun h a => by rw [← getN_norm, h, getN_norm], norm_eq⟩

/-- What is left when of neighbours of one actor the first stays. -/
def compG : Option Nat → List Dt → List Dt
  | _, [] => []
  | p, d :: l => if p = some d.1 then compG p l else d :: compG (some d.1) l
def lastA : Option Nat → List Dt → Option Nat
  | p, [] => p
  | _, d :: l => lastA (some d.1) l
theorem compG_snoc (p : Option Nat) (l : List Dt) (x : Dt) : compG p (l ++ [x]) = compG p l ++ (if lastA p l = some x.1 then [] else [x]) := by
  induction l generalizing p with
  | nil => by_cases h : p = some x.1 <;> simp [compG, lastA, h]
  | cons d l ih =>
    rw [List.cons_append, compG, compG, lastA]
    split
    · rename_i h; rw [ih, h]
    · rw [ih]; rfl
theorem lastA_snoc (p : Option Nat) (l : List Dt) (x : Dt) : lastA p (l ++ [x]) = some x.1 := by
  induction l generalizing p with
  | nil => rfl
  | cons d l ih => rw [List.cons_append, lastA, ih]
/-- By rising actors, an actor's greatest N first. -/
def leD (x y : Dt) : Prop := x.1 < y.1 ∨ (x.1 = y.1 ∧ y.2 ≤ x.2)
theorem comp_all (p : Option Nat) (l : List Dt) (hs : l.Pairwise leD) (hp : ∀ d ∈ l, 0 < d.2) (hq : ∀ q, p = some q → ∀ d ∈ l, q ≤ d.1) :
    Right (compG p l) ∧ (∀ q, p = some q → ∀ d ∈ compG p l, q < d.1) ∧ (∀ q, (∀ d ∈ l, q ≤ d.1) → ∀ d ∈ compG p l, q ≤ d.1) ∧ ∀ a, getN (compG p l) a = if p = some a then 0 else getN l a := by
  induction l generalizing p with
  | nil => exact ⟨⟨by simp [compG], by simp [compG]⟩, by simp [compG], by simp [compG], by intro a; simp [compG]⟩
  | cons d l ih =>
    have hs' := (List.pairwise_cons.1 hs).2
    have hd := (List.pairwise_cons.1 hs).1
    have hp' : ∀ x ∈ l, 0 < x.2 := fun x hx => hp x (by simp [hx])
    have hge : ∀ x ∈ l, d.1 ≤ x.1 := fun x hx => by rcases hd x hx with h | ⟨h, _⟩ <;> omega
    obtain ⟨i1, i2, i3, i4⟩ := ih (some d.1) hs' hp' (fun q e x hx => by cases e; exact hge x hx)
    rw [compG]
    split
    · rename_i h
      rw [h]
      refine ⟨i1, fun q e x hx => i2 q e x hx, fun q hql x hx => ?_, fun a => ?_⟩
      · have := i2 d.1 rfl x hx; have := hql d (by simp); omega
      · rw [i4]
        by_cases g : d.1 = a
        · simp [g]
        · rw [getN_cons, if_neg g]
    · rename_i h
      refine ⟨⟨List.pairwise_cons.2 ⟨fun x hx => i2 d.1 rfl x hx, i1.1⟩, fun x hx => ?_⟩, fun q e x hx => ?_, fun q hql x hx => ?_, fun a => ?_⟩
      · rcases List.mem_cons.1 hx with rfl | hx
        · exact hp x (by simp)
        · exact i1.2 x hx
      · have hqd := hq q e d (by simp)
        have hne : q ≠ d.1 := fun g => h (by rw [e, g])
        rcases List.mem_cons.1 hx with rfl | hx
        · omega
        · have := i2 d.1 rfl x hx; omega
      · rcases List.mem_cons.1 hx with rfl | hx
        · exact hql x (by simp)
        · have := i2 d.1 rfl x hx; have := hql d (by simp); omega
      · rw [getN_cons, getN_cons, i4]
        by_cases g : d.1 = a
        · have hm : getN l a ≤ d.2 := by
            rcases Nat.eq_zero_or_pos (getN l a) with k | k
            · omega
            · have := getN_mem k
              rcases hd _ this with q | ⟨_, q⟩
              · simp at q; omega
              · exact q
          have hpa : ¬ p = some a := fun e => h (by rw [e, g])
          simp only [g, if_true, if_neg hpa]
          omega
        · rw [if_neg g, if_neg g]
          have : ¬ (some d.1 = some a) := fun e => g (by cases e; rfl)
          rw [if_neg this]
          split
          · rename_i e
            have := hq a e d (by simp)
            exact getN_none (fun x hx => by have := hge x hx; omega)
          · rfl
theorem comp_norm {l m : List Dt} (hs : l.Pairwise leD) (hm : l.Perm (posD m)) : compG none l = norm m := by
  obtain ⟨h1, _, _, h4⟩ := comp_all none l hs (fun d hd => by have := (hm.mem_iff).1 hd; simpa [posD] using (List.mem_filter.1 this).2) (fun q e => by cases e)
  refine norm_of h1 (fun a => ?_)
  rw [h4 a, if_neg (by simp), getN_perm hm, getN_pos]
theorem comp_len (p : Option Nat) (l : List Dt) : (compG p l).length ≤ l.length := by
  induction l generalizing p with
  | nil => simp [compG]
  | cons d l ih =>
    rw [compG]
    split
    · exact Nat.le_succ_of_le (ih _)
    · exact Nat.succ_le_succ (ih _)
theorem mem_ins {d : Dt} {c : List Dt} {x : Dt} (h : x ∈ insD d c) : x = d ∨ x ∈ c ∨ ∃ e ∈ c, x = (e.1, max d.2 e.2) := by
  induction c with
  | nil => simp [insD] at h; exact .inl h
  | cons e c ih =>
    rw [insD] at h
    split at h
    · rcases List.mem_cons.1 h with rfl | h
      · exact .inl rfl
      · exact .inr (.inl h)
    · split at h
      · rcases List.mem_cons.1 h with rfl | h
        · exact .inr (.inr ⟨e, by simp, rfl⟩)
        · exact .inr (.inl (by simp [h]))
      · rcases List.mem_cons.1 h with rfl | h
        · exact .inr (.inl (by simp))
        · rcases ih h with g | g | ⟨y, hy, g⟩
          · exact .inl g
          · exact .inr (.inl (by simp [g]))
          · exact .inr (.inr ⟨y, by simp [hy], g⟩)
end Go.Proofs.Ytbmeflildmeecaa
