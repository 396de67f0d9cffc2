/- Nets in plain words: what is under way, who is cut off. -/
import Derived.Test.YtmdoamkockoipaaNtMap
namespace Go.Proofs.Ytmdoamkockoipaa
open Go.RowKit Go.Maps

/-- A message: its number, from whom, to whom, its body. -/
abbrev Mg := Int × Int × Int × ByteArray
def mgV (m : Mg) : List Value := [.int .i64 m.1, .int .i64 m.2.1, .int .i64 m.2.2.1, .string m.2.2.2]
def mgF (l : List Mg) : List Value := l.flatMap mgV
theorem mgV_len (m : Mg) : (mgV m).length = 4 := rfl
theorem mgF_len (l : List Mg) : (mgF l).length = l.length * 4 := by
  induction l with
  | nil => rfl
  | cons a l ih => simp [mgF, mgV] at ih ⊢; omega
theorem mgF_app (a b : List Mg) : mgF (a ++ b) = mgF a ++ mgF b := by simp [mgF]
theorem mgV_one (m : Mg) : ∀ u ∈ mgV m, u.oneCell' = true := fun u hu => by simp [mgV] at hu; rcases hu with rfl | rfl | rfl | rfl <;> rfl
theorem mgF_one (l : List Mg) : ∀ u ∈ mgF l, u.oneCell' = true := fun u hu => by
  obtain ⟨m, _, hm⟩ := List.mem_flatMap.1 hu
  exact mgV_one m u hm
theorem mgF_at : ∀ (l : List Mg) (i : Nat) (m : Mg), l[i]? = some m → ∀ j v, (mgV m)[j]? = some v → (mgF l)[i * 4 + j]? = some v
  | [], i, m, h, _, _, _ => by simp at h
  | a :: l, 0, m, h, j, v, hv => by
    simp at h
    subst h
    have hj : j < (mgV a).length := (List.getElem?_eq_some_iff.1 hv).1
    show (mgV a ++ mgF l)[0 * 4 + j]? = some v
    rw [Nat.zero_mul, Nat.zero_add, List.getElem?_append_left hj]; exact hv
  | a :: l, i + 1, m, h, j, v, hv => by
    have := mgF_at l i m (by simpa using h) j v hv
    show (mgV a ++ mgF l)[(i + 1) * 4 + j]? = some v
    rw [List.getElem?_append_right (by rw [mgV_len]; omega), mgV_len, show (i + 1) * 4 + j - 4 = i * 4 + j by omega]; exact this
theorem mgF_take (l : List Mg) (i : Nat) : mgF (l.take i) = (mgF l).take (i * 4) := by
  induction l generalizing i with
  | nil => simp [mgF]
  | cons a l ih =>
    cases i with
    | zero => simp [mgF]
    | succ i =>
      have := ih i
      show mgV a ++ mgF (l.take i) = (mgV a ++ mgF l).take _
      rw [this, List.take_append, mgV_len, List.take_of_length_le (l := mgV a) (by rw [mgV_len]; omega), show (i + 1) * 4 - 4 = i * 4 by omega]
theorem mgF_drop (l : List Mg) (i : Nat) : mgF (l.drop i) = (mgF l).drop (i * 4) := by
  induction l generalizing i with
  | nil => simp [mgF]
  | cons a l ih =>
    cases i with
    | zero => simp [mgF]
    | succ i =>
      have := ih i
      show mgF (l.drop i) = (mgV a ++ mgF l).drop _
      rw [this, List.drop_append, mgV_len, List.drop_of_length_le (l := mgV a) (by rw [mgV_len]; omega), show (i + 1) * 4 - 4 = i * 4 by omega]; rfl
/-- Two nodes, the lesser one first. -/
def pairI (a b : Int) : Int × Int := if a ≤ b then (a, b) else (b, a)
theorem pairI_ok {a b : Int} (ha : okI a) (hb : okI b) : okP (pairI a b) := by
  unfold pairI
  split
  · exact ⟨ha, hb⟩
  · exact ⟨hb, ha⟩
/-- A net: what is under way, the number given last, who is cut off. -/
structure Nt where
  l : List Mg
  last : Nat
  cuts : List (Int × Int)
def joinedB (c : List (Int × Int)) (a b : Int) : Bool := !decide (pairI a b ∈ c)
def cutL (c : List (Int × Int)) (a b : Int) : List (Int × Int) := if a = b then c else if pairI a b ∈ c then c else c ++ [pairI a b]
/-- Is a node one of those asked for? (None asked for: all are.) -/
def askB (q : List Int) (a : Int) : Bool := decide (a ∈ q) || q.isEmpty
def hitB (q : List Int) (p : Int × Int) : Bool := askB q p.1 || askB q p.2
def healL (q : List Int) (c : List (Int × Int)) : List (Int × Int) := c.filter fun p => !hitB q p
def mayB (c : List (Int × Int)) (m : Mg) : Bool := joinedB c m.2.1 m.2.2.1
/-- The places of those that may be delivered, from k on. -/
def openF (c : List (Int × Int)) : Nat → List Mg → List Nat
  | _, [] => []
  | k, m :: l => if mayB c m then k :: openF c (k + 1) l else openF c (k + 1) l
def openI (s : Nt) : List Nat := openF s.cuts 0 s.l
theorem openF_app (c : List (Int × Int)) : ∀ (k : Nat) (a b : List Mg), openF c k (a ++ b) = openF c k a ++ openF c (k + a.length) b
  | k, [], b => by simp [openF]
  | k, m :: a, b => by
    have := openF_app c (k + 1) a b
    simp only [List.cons_append, openF, this, List.length_cons, show k + 1 + a.length = k + (a.length + 1) by omega]
    split <;> rfl
theorem openF_mem (c : List (Int × Int)) : ∀ (k : Nat) (l : List Mg) (i : Nat), i ∈ openF c k l → ∃ m, k ≤ i ∧ l[i - k]? = some m ∧ mayB c m = true
  | k, [], i, h => by simp [openF] at h
  | k, m :: l, i, h => by
    unfold openF at h
    have tail : i ∈ openF c (k + 1) l → ∃ m', k ≤ i ∧ (m :: l)[i - k]? = some m' ∧ mayB c m' = true := fun h => by
      obtain ⟨m', h1, h2, h3⟩ := openF_mem c (k + 1) l i h
      refine ⟨m', by omega, ?_, h3⟩
      rw [show i - k = (i - (k + 1)) + 1 by omega]
      simpa using h2
    split at h
    · rename_i hm
      rcases List.mem_cons.1 h with rfl | h
      · exact ⟨m, Nat.le_refl _, by simp, hm⟩
      · exact tail h
    · exact tail h
theorem openF_len (c : List (Int × Int)) : ∀ (k : Nat) (l : List Mg), (openF c k l).length = (l.filter (mayB c)).length
  | k, [] => rfl
  | k, m :: l => by
    have := openF_len c (k + 1) l
    unfold openF
    by_cases h : mayB c m = true
    · simp [h, this]
    · simp [h, this]
theorem openI_len (s : Nt) : (openI s).length = (s.l.filter (mayB s.cuts)).length := openF_len _ _ _
theorem openI_mem {s : Nt} {i : Nat} (h : i ∈ openI s) : ∃ m, s.l[i]? = some m ∧ mayB s.cuts m = true := by
  obtain ⟨m, _, h2, h3⟩ := openF_mem _ _ _ _ h
  exact ⟨m, by simpa using h2, h3⟩
theorem openI_le (s : Nt) : (openI s).length ≤ s.l.length := by rw [openI_len]; exact List.length_filter_le _ _
theorem openF_map (c : List (Int × Int)) : ∀ (k : Nat) (l pre : List Mg), pre.length = k → (openF c k l).map (fun i => (pre ++ l)[i]?) = (l.filter (mayB c)).map some
  | k, [], pre, hk => rfl
  | k, m :: l, pre, hk => by
    have ih := openF_map c (k + 1) l (pre ++ [m]) (by simp [hk])
    rw [List.append_assoc] at ih
    simp only [List.singleton_append] at ih
    unfold openF
    by_cases h : mayB c m = true
    · rw [if_pos h, List.filter_cons_of_pos h, List.map_cons, List.map_cons, ih]
      congr 1
      rw [List.getElem?_append_right (by omega), hk]; simp
    · rw [if_neg h, List.filter_cons_of_neg h, ih]
theorem openI_map (s : Nt) : (openI s).map (fun i => s.l[i]?) = (s.l.filter (mayB s.cuts)).map some := by
  have := openF_map s.cuts 0 s.l [] rfl
  simpa [openI] using this
/-- Where a pick lies. -/
def placeI (p n : Int) : Int := (if p < 0 then -(p + 1) else p) % n
theorem placeI_lt {p n : Int} (hn : 0 < n) : 0 ≤ placeI p n ∧ placeI p n < n := ⟨Int.emod_nonneg _ (by omega), Int.emod_lt_of_pos _ hn⟩
def placeN (p : Int) (n : Nat) : Nat := (placeI p n).toNat
theorem placeN_lt {p : Int} {n : Nat} (hn : 0 < n) : placeN p n < n := by
  have := placeI_lt (p := p) (n := n) (by omega)
  unfold placeN
  omega
theorem placeN_int {p : Int} {n : Nat} (hn : 0 < n) : ((placeN p n : Nat) : Int) = placeI p n := by
  have := placeI_lt (p := p) (n := n) (by omega)
  unfold placeN
  omega
def dropN (s : Nt) (i : Nat) : Nt := { s with l := s.l.eraseIdx i }
def addN (s : Nt) (f t : Int) (b : ByteArray) : Nt := { s with l := s.l ++ [((s.last : Int) + 1, f, t, b)], last := s.last + 1 }
def sendN (s : Nt) (f t : Int) : List ByteArray → Nt
  | [] => s
  | b :: r => sendN (addN s f t b) f t r
theorem sendN_app (f t : Int) : ∀ (a b : List ByteArray) (s : Nt), sendN s f t (a ++ b) = sendN (sendN s f t a) f t b
  | [], _, _ => rfl
  | x :: a, b, s => sendN_app f t a b (addN s f t x)
theorem sendN_len (f t : Int) : ∀ (a : List ByteArray) (s : Nt), (sendN s f t a).l.length = s.l.length + a.length ∧ (sendN s f t a).last = s.last + a.length ∧ (sendN s f t a).cuts = s.cuts
  | [], s => ⟨rfl, rfl, rfl⟩
  | x :: a, s => by
    obtain ⟨h1, h2, h3⟩ := sendN_len f t a (addN s f t x)
    refine ⟨h1.trans ?_, h2.trans ?_, h3⟩
    · simp [addN]; omega
    · simp [addN]; omega
end Go.Proofs.Ytmdoamkockoipaa
