/- The library's stable sort, in plain words: blocks that change places, and two rows that are merged. Data is a function of places. -/
namespace Go.Proofs.Ytlliijodilnlgaa.Sm
variable {α : Type}

def swp (f : Nat → α) (i j : Nat) : Nat → α := fun k => if k = i then f j else if k = j then f i else f k
/-- n places from a on and from b on change places. -/
def swR (f : Nat → α) (a b n : Nat) : Nat → α := fun k => if a ≤ k ∧ k < a + n then f (k - a + b) else if b ≤ k ∧ k < b + n then f (k - b + a) else f k
theorem swR_zero (f : Nat → α) (a b : Nat) : swR f a b 0 = f := by
  funext k
  unfold swR
  rw [if_neg (by omega), if_neg (by omega)]
theorem swR_succ (f : Nat → α) (a b n : Nat) (h : a + n < b) : swR f a b (n + 1) = swp (swR f a b n) (a + n) (b + n) := by
  funext k
  unfold swp swR
  by_cases h1 : k = a + n
  · subst h1
    rw [if_pos ⟨by omega, by omega⟩, if_pos rfl, if_neg (by omega), if_neg (by omega)]
    congr 1; omega
  · rw [if_neg h1]
    by_cases h2 : k = b + n
    · subst h2
      rw [if_neg (by omega), if_pos ⟨by omega, by omega⟩, if_pos rfl, if_neg (by omega), if_neg (by omega)]
      congr 1; omega
    · rw [if_neg h2]
      by_cases h3 : a ≤ k ∧ k < a + n
      · rw [if_pos h3, if_pos ⟨h3.1, by omega⟩]
      · rw [if_neg h3, if_neg (by omega)]
        by_cases h4 : b ≤ k ∧ k < b + n
        · rw [if_pos h4, if_pos ⟨h4.1, by omega⟩]
        · rw [if_neg h4, if_neg (by omega)]
/-- The rows from x to m and from m to y change places. -/
def exch (x m y : Nat) (f : Nat → α) : Nat → α := fun k => if x ≤ k ∧ k < x + (y - m) then f (k - x + m) else if x + (y - m) ≤ k ∧ k < y then f (k - (y - m)) else f k
theorem exch_eq (f : Nat → α) (m i : Nat) (h : i ≤ m) : exch (m - i) m (m + i) f = swR f (m - i) m i := by
  funext k
  unfold exch swR
  by_cases h1 : m - i ≤ k ∧ k < m - i + i
  · rw [if_pos ⟨h1.1, by omega⟩, if_pos h1]
  · rw [if_neg (by omega), if_neg h1]
    by_cases h2 : m ≤ k ∧ k < m + i
    · rw [if_pos ⟨by omega, by omega⟩, if_pos h2]
      congr 1; omega
    · rw [if_neg (by omega), if_neg h2]
theorem exch_gt (f : Nat → α) (m i j : Nat) (h : i ≤ m) (hij : j < i) : exch (m - i) m (m + j) f = exch (m - (i - j)) m (m + j) (swR f (m - i) m j) := by
  funext k
  unfold exch swR
  by_cases h1 : m - i ≤ k ∧ k < m - i + j
  · rw [if_pos ⟨h1.1, by omega⟩, if_neg (by omega), if_neg (by omega), if_pos h1]
  · rw [if_neg (by omega)]
    by_cases h2 : m - i + j ≤ k ∧ k < m
    · rw [if_pos ⟨by omega, by omega⟩]
      by_cases h3 : k < m - (i - j) + (m + j - m)
      · rw [if_pos ⟨by omega, h3⟩, if_neg (by omega), if_pos ⟨by omega, by omega⟩]
        congr 1; omega
      · rw [if_neg (by omega), if_pos ⟨by omega, by omega⟩, if_neg (by omega), if_neg (by omega)]
    · by_cases h4 : m ≤ k ∧ k < m + j
      · rw [if_pos ⟨by omega, by omega⟩]
        by_cases h3 : k < m - (i - j) + (m + j - m)
        · rw [if_pos ⟨by omega, h3⟩, if_neg (by omega), if_pos ⟨by omega, by omega⟩]
          congr 1; omega
        · rw [if_neg (by omega), if_pos ⟨by omega, by omega⟩, if_neg (by omega), if_neg (by omega)]
      · rw [if_neg (by omega), if_neg (by omega), if_neg (by omega), if_neg (by omega), if_neg (by omega)]
theorem exch_lt (f : Nat → α) (m i j : Nat) (h : i ≤ m) (hij : i < j) : exch (m - i) m (m + j) f = exch (m - i) m (m + (j - i)) (swR f (m - i) (m + j - i) i) := by
  funext k
  unfold exch swR
  by_cases h1 : m - i ≤ k ∧ k < m - i + (j - i)
  · rw [if_pos ⟨h1.1, by omega⟩, if_pos ⟨h1.1, by omega⟩, if_neg (by omega), if_neg (by omega)]
  · by_cases h2 : m - i + (j - i) ≤ k ∧ k < m + (j - i)
    · rw [if_neg (c := m - i ≤ k ∧ k < m - i + (m + (j - i) - m)) (by omega), if_pos (c := m - i + (m + (j - i) - m) ≤ k ∧ k < m + (j - i)) ⟨by omega, by omega⟩]
      by_cases h3 : k < m - i + j
      · rw [if_pos ⟨by omega, by omega⟩, if_pos ⟨by omega, by omega⟩]
        congr 1; omega
      · exfalso; omega
    · by_cases h4 : m + (j - i) ≤ k ∧ k < m + j
      · rw [if_neg (c := m - i ≤ k ∧ k < m - i + (m + j - m)) (by omega), if_pos (c := m - i + (m + j - m) ≤ k ∧ k < m + j) ⟨by omega, by omega⟩, if_neg (by omega), if_neg (by omega), if_neg (by omega), if_pos ⟨by omega, by omega⟩]
        congr 1; omega
      · rw [if_neg (by omega), if_neg (by omega), if_neg (by omega), if_neg (by omega), if_neg (by omega), if_neg (by omega)]
theorem exch_none_left (f : Nat → α) (m y : Nat) : exch m m y f = f := by
  funext k
  unfold exch
  by_cases h1 : m ≤ k ∧ k < m + (y - m)
  · rw [if_pos h1]; congr 1; omega
  · rw [if_neg h1, if_neg (by omega)]
theorem exch_none_right (f : Nat → α) (x m : Nat) : exch x m m f = f := by
  funext k
  unfold exch
  rw [if_neg (by omega)]
  by_cases h : x + (m - m) ≤ k ∧ k < m
  · rw [if_pos h]; congr 1; omega
  · rw [if_neg h]
/-! An order of what differs. -/
structure Ord (lt : α → α → Prop) : Prop where
  trans : ∀ {a b c}, lt a b → lt b c → lt a c
  total : ∀ {a b}, a ≠ b → ¬ lt a b → lt b a
def Sorted (lt : α → α → Prop) (f : Nat → α) (a b : Nat) : Prop := ∀ i j, a ≤ i → i < j → j < b → lt (f i) (f j)
def Inj (f : Nat → α) (a b : Nat) : Prop := ∀ i j, a ≤ i → i < b → a ≤ j → j < b → f i = f j → i = j
/-- The same things in other places. -/
structure PermOn (a b : Nat) (f g : Nat → α) : Prop where
  out : ∀ k, k < a ∨ b ≤ k → g k = f k
  ex : ∃ s : Nat → Nat, (∀ k, a ≤ k → k < b → a ≤ s k ∧ s k < b ∧ g k = f (s k)) ∧ ∀ i j, a ≤ i → i < b → a ≤ j → j < b → s i = s j → i = j
theorem PermOn.refl (a b : Nat) (f : Nat → α) : PermOn a b f f := ⟨fun _ _ => rfl, fun k => k, fun _ h1 h2 => ⟨h1, h2, rfl⟩, fun _ _ _ _ _ _ h => h⟩
theorem PermOn.trans {a b : Nat} {f g h : Nat → α} (p : PermOn a b f g) (q : PermOn a b g h) : PermOn a b f h := by
  obtain ⟨s, s1, s2⟩ := p.ex
  obtain ⟨t, t1, t2⟩ := q.ex
  refine ⟨fun k hk => (q.out k hk).trans (p.out k hk), fun k => s (t k), fun k h1 h2 => ?_, fun i j hi hi' hj hj' e => ?_⟩
  · obtain ⟨a1, a2, a3⟩ := t1 k h1 h2
    obtain ⟨b1, b2, b3⟩ := s1 (t k) a1 a2
    exact ⟨b1, b2, a3.trans b3⟩
  · obtain ⟨a1, a2, _⟩ := t1 i hi hi'
    obtain ⟨b1, b2, _⟩ := t1 j hj hj'
    exact t2 i j hi hi' hj hj' (s2 _ _ a1 a2 b1 b2 e)
theorem PermOn.widen {a b c d : Nat} {f g : Nat → α} (p : PermOn a b f g) (h1 : c ≤ a) (h2 : b ≤ d) : PermOn c d f g := by
  obtain ⟨s, s1, s2⟩ := p.ex
  refine ⟨fun k hk => p.out k (by omega), fun k => if a ≤ k ∧ k < b then s k else k, fun k hk hk' => ?_, fun i j hi hi' hj hj' e => ?_⟩
  · dsimp only
    by_cases h : a ≤ k ∧ k < b
    · rw [if_pos h]
      obtain ⟨q1, q2, q3⟩ := s1 k h.1 h.2
      exact ⟨by omega, by omega, q3⟩
    · rw [if_neg h]
      exact ⟨hk, hk', p.out k (by omega)⟩
  · dsimp only at e
    by_cases hi2 : a ≤ i ∧ i < b
    · rw [if_pos hi2] at e
      by_cases hj2 : a ≤ j ∧ j < b
      · rw [if_pos hj2] at e
        exact s2 i j hi2.1 hi2.2 hj2.1 hj2.2 e
      · rw [if_neg hj2] at e
        obtain ⟨q1, q2, _⟩ := s1 i hi2.1 hi2.2
        omega
    · rw [if_neg hi2] at e
      by_cases hj2 : a ≤ j ∧ j < b
      · rw [if_pos hj2] at e
        obtain ⟨q1, q2, _⟩ := s1 j hj2.1 hj2.2
        omega
      · rw [if_neg hj2] at e
        exact e
theorem PermOn.inj {a b : Nat} {f g : Nat → α} (p : PermOn a b f g) (h : Inj f a b) : Inj g a b := fun i j hi hi' hj hj' e => by
  obtain ⟨s, s1, s2⟩ := p.ex
  obtain ⟨a1, a2, a3⟩ := s1 i hi hi'
  obtain ⟨b1, b2, b3⟩ := s1 j hj hj'
  rw [a3, b3] at e
  exact s2 i j hi hi' hj hj' (h _ _ a1 a2 b1 b2 e)
/-- What holds of all things in a row holds of them in other places. -/
theorem PermOn.all {a b : Nat} {f g : Nat → α} (p : PermOn a b f g) {C : α → Prop} (h : ∀ k, a ≤ k → k < b → C (f k)) : ∀ k, a ≤ k → k < b → C (g k) := fun k h1 h2 => by
  obtain ⟨s, s1, _⟩ := p.ex
  obtain ⟨a1, a2, a3⟩ := s1 k h1 h2
  rw [a3]; exact h _ a1 a2
theorem exch_perm (f : Nat → α) (x m y : Nat) (h1 : x ≤ m) (h2 : m ≤ y) : PermOn x y f (exch x m y f) := by
  refine ⟨fun k hk => ?_, fun k => if k < x + (y - m) then k - x + m else k - (y - m), fun k hk hk' => ?_, fun i j hi hi' hj hj' e => ?_⟩
  · unfold exch
    rw [if_neg (by omega), if_neg (by omega)]
  · unfold exch
    dsimp only
    by_cases h : k < x + (y - m)
    · rw [if_pos h, if_pos ⟨hk, h⟩]; exact ⟨by omega, by omega, rfl⟩
    · rw [if_neg h, if_neg (by omega), if_pos ⟨by omega, hk'⟩]; exact ⟨by omega, by omega, rfl⟩
  · dsimp only at e
    by_cases a1 : i < x + (y - m)
    · rw [if_pos a1] at e
      by_cases a2 : j < x + (y - m)
      · rw [if_pos a2] at e; omega
      · rw [if_neg a2] at e; omega
    · rw [if_neg a1] at e
      by_cases a2 : j < x + (y - m)
      · rw [if_pos a2] at e; omega
      · rw [if_neg a2] at e; omega
/-! Merging: where the rows are cut. -/
/-- s is where the left row is cut: what is left of it comes ahead of what is right of the right row's cut, and the other way round. -/
structure Cut (lt : α → α → Prop) (f : Nat → α) (a m b s e : Nat) : Prop where
  as : a ≤ s
  sm : s ≤ m
  me : m ≤ e
  eb : e ≤ b
  p1 : a < s → e < b → lt (f (s - 1)) (f e)
  p2 : s < m → m < e → lt (f (e - 1)) (f s)
variable {lt : α → α → Prop}
theorem sorted_le (h : Ord lt) {f : Nat → α} {a b i j : Nat} (hs : Sorted lt f a b) (hi : a ≤ i) (hij : i ≤ j) (hj : j < b) {c : α} (hc : lt (f j) c) : lt (f i) c := by
  rcases Nat.lt_or_ge i j with q | q
  · exact h.trans (hs i j hi q hj) hc
  · obtain rfl : i = j := by omega
    exact hc
theorem le_sorted (h : Ord lt) {f : Nat → α} {a b i j : Nat} (hs : Sorted lt f a b) (hi : a ≤ i) (hij : i ≤ j) (hj : j < b) {c : α} (hc : lt c (f i)) : lt c (f j) := by
  rcases Nat.lt_or_ge i j with q | q
  · exact h.trans hc (hs i j hi q hj)
  · obtain rfl : i = j := by omega
    exact hc
/-- Behind the exchange: four sorted rows, and each of the first two comes ahead of each of the last two. -/
theorem cut_exch (h : Ord lt) {f : Nat → α} {a m b s e mid : Nat} (hl : Sorted lt f a m) (hr : Sorted lt f m b) (hc : Cut lt f a m b s e) (hmid : mid = s + (e - m)) :
    Sorted lt (exch s m e f) a s ∧ Sorted lt (exch s m e f) s mid ∧ Sorted lt (exch s m e f) mid e ∧ Sorted lt (exch s m e f) e b ∧ ∀ i j, a ≤ i → i < mid → mid ≤ j → j < b → lt (exch s m e f i) (exch s m e f j) := by
  obtain ⟨c1, c2, c3, c4, p1, p2⟩ := hc
  have g1 : ∀ k, k < s → exch s m e f k = f k := fun k hk => by unfold exch; rw [if_neg (by omega), if_neg (by omega)]
  have g2 : ∀ k, s ≤ k → k < mid → exch s m e f k = f (k - s + m) := fun k h1 h2 => by unfold exch; rw [if_pos ⟨h1, by omega⟩]
  have g3 : ∀ k, mid ≤ k → k < e → exch s m e f k = f (k - (e - m)) := fun k h1 h2 => by unfold exch; rw [if_neg (by omega), if_pos ⟨by omega, h2⟩]
  have g4 : ∀ k, e ≤ k → exch s m e f k = f k := fun k hk => by unfold exch; rw [if_neg (by omega), if_neg (by omega)]
  refine ⟨fun i j h1 h2 h3 => ?_, fun i j h1 h2 h3 => ?_, fun i j h1 h2 h3 => ?_, fun i j h1 h2 h3 => ?_, fun i j h1 h2 h3 h4 => ?_⟩
  · rw [g1 i (by omega), g1 j h3]; exact hl i j h1 h2 (by omega)
  · rw [g2 i h1 (by omega), g2 j (by omega) h3]; exact hr _ _ (by omega) (by omega) (by omega)
  · rw [g3 i h1 (by omega), g3 j (by omega) h3]; exact hl _ _ (by omega) (by omega) (by omega)
  · rw [g4 i h1, g4 j (by omega)]; exact hr i j (by omega) h2 h3
  · rcases Nat.lt_or_ge i s with q | q
    · rw [g1 i q]
      rcases Nat.lt_or_ge j e with r | r
      · rw [g3 j h3 r]; exact hl _ _ h1 (by omega) (by omega)
      · rw [g4 j r]
        exact sorted_le h hl h1 (show i ≤ s - 1 by omega) (by omega) (le_sorted h hr c3 r h4 (p1 (by omega) (by omega)))
    · rw [g2 i q h2]
      rcases Nat.lt_or_ge j e with r | r
      · rw [g3 j h3 r]
        exact sorted_le h hr (by omega) (show i - s + m ≤ e - 1 by omega) (by omega) (le_sorted h hl c1 (show s ≤ j - (e - m) by omega) (by omega) (p2 (by omega) (by omega)))
      · rw [g4 j r]; exact hr _ _ (by omega) (by omega) h4
/-- Two halves, each sorted behind its own merge, are sorted together. -/
theorem halves {f g k : Nat → α} {a mid b : Nat} (ham : a ≤ mid) (hmb : mid ≤ b) (hx : ∀ i j, a ≤ i → i < mid → mid ≤ j → j < b → lt (f i) (f j)) (p : PermOn a mid f g) (hg : Sorted lt g a mid) (q : PermOn mid b g k) (hk : Sorted lt k mid b) : Sorted lt k a b ∧ PermOn a b f k := by
  have gout : ∀ i, mid ≤ i → g i = f i := fun i hi => p.out i (Or.inr hi)
  have kout : ∀ i, i < mid → k i = g i := fun i hi => q.out i (Or.inl hi)
  refine ⟨fun i j h1 h2 h3 => ?_, (p.widen (Nat.le_refl _) hmb).trans (q.widen ham (Nat.le_refl _))⟩
  rcases Nat.lt_or_ge j mid with r | r
  · rw [kout i (by omega), kout j r]; exact hg i j h1 h2 r
  · rcases Nat.lt_or_ge i mid with r' | r'
    · rw [kout i r']
      refine q.all (C := fun c => lt (g i) c) (fun y hy1 hy2 => ?_) j r h3
      rw [gout y hy1]
      exact p.all (C := fun c => lt c (f y)) (fun z hz1 hz2 => hx z y hz1 hz2 hy1 hy2) i h1 r'
    · exact hk i j r' h2 h3
/-! The search for the cut. -/
/-- Where the search begins. -/
def start0 (a m b : Nat) : Nat := if (a + b) / 2 < m then (a + b) / 2 + m - b else a
def end0 (a m b : Nat) : Nat := if (a + b) / 2 < m then (a + b) / 2 else m
theorem start0_ok {a m b : Nat} (h1 : a < m) (h2 : m < b) : a ≤ start0 a m b ∧ start0 a m b ≤ end0 a m b ∧ end0 a m b ≤ m ∧ ∀ c, start0 a m b ≤ c → c < end0 a m b → m ≤ (a + b) / 2 + m - 1 - c ∧ (a + b) / 2 + m - 1 - c < b := by
  unfold start0 end0
  split
  · refine ⟨by omega, by omega, by omega, fun c hc hc' => ⟨by omega, by omega⟩⟩
  · refine ⟨by omega, by omega, by omega, fun c hc hc' => ⟨by omega, by omega⟩⟩
/-- Who searched to the end has the cut. -/
theorem cut_of {f : Nat → α} {a m b s : Nat} (h1 : a < m) (h2 : m < b) (hs1 : start0 a m b ≤ s) (hs2 : s ≤ end0 a m b)
    (hy : start0 a m b < s → lt (f (s - 1)) (f ((a + b) / 2 + m - s))) (hn : s < end0 a m b → lt (f ((a + b) / 2 + m - 1 - s)) (f s)) : Cut lt f a m b s ((a + b) / 2 + m - s) := by
  obtain ⟨q1, q2, q3, q4⟩ := start0_ok h1 h2
  unfold start0 end0 at *
  split at hs1
  · rename_i hc
    rw [if_pos hc] at *
    refine ⟨by omega, by omega, by omega, by omega, fun h3 h4 => hy (by omega), fun h3 h4 => ?_⟩
    have := hn (by omega)
    rw [show (a + b) / 2 + m - s - 1 = (a + b) / 2 + m - 1 - s by omega]
    exact this
  · rename_i hc
    rw [if_neg hc] at *
    refine ⟨by omega, by omega, by omega, by omega, fun h3 h4 => hy (by omega), fun h3 h4 => ?_⟩
    have := hn (by omega)
    rw [show (a + b) / 2 + m - s - 1 = (a + b) / 2 + m - 1 - s by omega]
    exact this
/-! One thing put into a sorted row. -/
/-- The left row is one thing: it goes ahead of place i. -/
theorem insL (h : Ord lt) {f : Nat → α} {a b i : Nat} (hr : Sorted lt f (a + 1) b) (h1 : a + 1 ≤ i) (h2 : i ≤ b) (p1 : a + 1 < i → lt (f (i - 1)) (f a)) (p2 : i < b → lt (f a) (f i)) : Sorted lt (exch a (a + 1) i f) a b ∧ PermOn a b f (exch a (a + 1) i f) := by
  obtain ⟨g1, g2, g3, g4, g5⟩ := cut_exch (mid := a + (i - (a + 1))) h (f := f) (a := a) (m := a + 1) (b := b) (s := a) (e := i) (fun x y _ _ _ => absurd (show x < x by omega) (Nat.lt_irrefl _)) hr ⟨Nat.le_refl _, by omega, h1, h2, fun q => absurd q (Nat.lt_irrefl _), fun _ q => p1 q⟩ rfl
  refine ⟨fun x y hx hxy hy => ?_, (exch_perm f a (a + 1) i (by omega) h1).widen (Nat.le_refl _) h2⟩
  rcases Nat.lt_or_ge x (a + (i - (a + 1))) with q | q
  · rcases Nat.lt_or_ge y (a + (i - (a + 1))) with r | r
    · exact g2 x y hx hxy r
    · exact g5 x y hx q r hy
  · rcases Nat.lt_or_ge x i with r | r
    · obtain rfl : x = a + (i - (a + 1)) := by omega
      rw [show exch a (a + 1) i f (a + (i - (a + 1))) = f a by unfold exch; rw [if_neg (by omega), if_pos ⟨by omega, by omega⟩]; congr 1; omega,
        show exch a (a + 1) i f y = f y by unfold exch; rw [if_neg (by omega), if_neg (by omega)]]
      exact le_sorted h hr h1 (show i ≤ y by omega) hy (p2 (by omega))
    · exact g4 x y r hxy hy
theorem insL_step (f : Nat → α) (a k : Nat) (h : a ≤ k) : exch a (a + 1) (k + 2) f = swp (exch a (a + 1) (k + 1) f) k (k + 1) := by
  funext x
  unfold swp exch
  by_cases h1 : x = k
  · subst h1
    rw [if_pos ⟨h, by omega⟩, if_pos rfl, if_neg (by omega), if_neg (by omega)]
    congr 1; omega
  · rw [if_neg h1]
    by_cases h2 : x = k + 1
    · subst h2
      rw [if_neg (by omega), if_pos ⟨by omega, by omega⟩, if_pos rfl, if_neg (by omega), if_pos ⟨by omega, by omega⟩]
      congr 1; omega
    · rw [if_neg h2]
      by_cases h3 : a ≤ x ∧ x < k
      · rw [if_pos ⟨h3.1, by omega⟩, if_pos ⟨h3.1, by omega⟩]
      · rw [if_neg (by omega), if_neg (by omega), if_neg (by omega), if_neg (by omega)]
/-- The right row is one thing: it goes to place i. -/
theorem insR (h : Ord lt) {f : Nat → α} {a m i : Nat} (hl : Sorted lt f a m) (h1 : a ≤ i) (h2 : i ≤ m) (p1 : a < i → lt (f (i - 1)) (f m)) (p2 : i < m → lt (f m) (f i)) : Sorted lt (exch i m (m + 1) f) a (m + 1) ∧ PermOn a (m + 1) f (exch i m (m + 1) f) := by
  obtain ⟨g1, g2, g3, g4, g5⟩ := cut_exch (mid := i + 1) h (f := f) (a := a) (m := m) (b := m + 1) (s := i) (e := m + 1) hl (fun x y _ _ _ => absurd (show x < x by omega) (Nat.lt_irrefl _)) ⟨h1, h2, by omega, Nat.le_refl _, fun _ q => absurd q (Nat.lt_irrefl _), fun q _ => p2 q⟩ (by omega)
  refine ⟨fun x y hx hxy hy => ?_, (exch_perm f i m (m + 1) h2 (by omega)).widen h1 (Nat.le_refl _)⟩
  rcases Nat.lt_or_ge x (i + 1) with q | q
  · rcases Nat.lt_or_ge y (i + 1) with r | r
    · rcases Nat.lt_or_ge y i with r' | r'
      · exact g1 x y hx hxy r'
      · obtain rfl : y = i := by omega
        rw [show exch y m (m + 1) f y = f m by unfold exch; rw [if_pos ⟨by omega, by omega⟩]; congr 1; omega,
          show exch y m (m + 1) f x = f x by unfold exch; rw [if_neg (by omega), if_neg (by omega)]]
        exact sorted_le h hl hx (show x ≤ y - 1 by omega) (by omega) (p1 (by omega))
    · exact g5 x y hx q r hy
  · exact g3 x y q hxy hy
theorem insR_step (f : Nat → α) (m k : Nat) (h : k < m) : exch k m (m + 1) f = swp (exch (k + 1) m (m + 1) f) (k + 1) k := by
  funext x
  unfold swp exch
  by_cases h1 : x = k + 1
  · subst h1
    rw [if_neg (by omega), if_pos ⟨by omega, by omega⟩, if_pos rfl, if_neg (by omega), if_neg (by omega)]
    congr 1; omega
  · rw [if_neg h1]
    by_cases h2 : x = k
    · subst h2
      rw [if_pos ⟨by omega, by omega⟩, if_pos rfl, if_pos ⟨by omega, by omega⟩]
      congr 1; omega
    · rw [if_neg h2]
      by_cases h3 : k + 1 < x ∧ x < m + 1
      · rw [if_neg (by omega), if_pos ⟨by omega, by omega⟩, if_neg (by omega), if_pos ⟨by omega, by omega⟩]
      · rw [if_neg (by omega), if_neg (by omega), if_neg (by omega), if_neg (by omega)]
end Go.Proofs.Ytlliijodilnlgaa.Sm
