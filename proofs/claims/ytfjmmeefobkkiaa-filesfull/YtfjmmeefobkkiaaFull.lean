/- The function of the statement FilesFull, called with whatever room and texts, answers true. -/
import Derived.Test.YtfjmmeefobkkiaaTwice
namespace Go.Proofs.Ytfjmmeefobkkiaa
open Go.RowKit Go.Maps Go.WideMaps

def nmC : ByteArray := ⟨#[99]⟩
/-- Whether a file is there, as a number. -/
def pr (l : Fs) (k : List UInt8) : Nat := if (get l k).isSome = true then 1 else 0
theorem pr_put (k : List UInt8) (f : Fl) (l : Fs) (k' : List UInt8) : pr (put k f l) k' = if k' = k then 1 else pr l k' := by
  unfold pr
  rw [get_put]
  by_cases h : k' = k
  · rw [if_pos h, if_pos h]; rfl
  · rw [if_neg h, if_neg h]
theorem pr_le (l : Fs) (k : List UInt8) : pr l k ≤ 1 := by unfold pr; split <;> omega
/-- A disk with power, with so much room, with files a, b, c alone. -/
structure Three (S : Dk) (r : Int) : Prop where
  on : S.on = true
  armed : S.armed = false
  room : S.room = roomN r
  used : used S.fs ≤ roomN r
  len : S.fs.length ≤ pr S.fs [97] + pr S.fs [98] + pr S.fs [99]
theorem Three.lt {S : Dk} {r : Int} (h : Three S r) : S.fs.length < 256 := by
  have := h.len
  have := pr_le S.fs [97]
  have := pr_le S.fs [98]
  have := pr_le S.fs [99]
  omega
theorem Three.lay {S : Dk} {r : Int} (h : Three S r) (hf : S.Fine) (k : List UInt8) (hk : k = [97] ∨ k = [98] ∨ k = [99]) (p : ByteArray) (hu : Ytfjmmeefobkkiaa.used S.fs + p.size ≤ roomN r) : Three (layS S k [p]) r ∧ Ytfjmmeefobkkiaa.used (layS S k [p]).fs = Ytfjmmeefobkkiaa.used S.fs + p.size := by
  obtain ⟨F, hF⟩ : ∃ F : Fl, (⟨(oldF S k).bytes ++ joins [p], (oldF S k).firm⟩ : Fl) = F := ⟨_, rfl⟩
  have h1 := used_put hf.rise k F
  have h2 := len_put_le S.fs k F
  have h3 : lenAt S.fs k = (oldF S k).bytes.length := by
    unfold lenAt oldF
    cases get S.fs k <;> rfl
  have h4 : p.data.toList.length = p.size := rfl
  have h5 : F.bytes.length = (oldF S k).bytes.length + p.size := by rw [← hF, joins_one, List.length_append, h4]
  have hus : Ytfjmmeefobkkiaa.used (put k F S.fs) = Ytfjmmeefobkkiaa.used S.fs + p.size := by omega
  have hl := h.len
  have hlen : (put k F S.fs).length ≤ pr (put k F S.fs) [97] + pr (put k F S.fs) [98] + pr (put k F S.fs) [99] := by
    rw [pr_put, pr_put, pr_put]
    have a1 := pr_le S.fs [97]
    have a2 := pr_le S.fs [98]
    have a3 := pr_le S.fs [99]
    cases hg : get S.fs k with
    | some g =>
      have h6 := len_put_old hf.rise k F g hg
      have h7 : pr S.fs k = 1 := by unfold pr; rw [hg]; rfl
      rcases hk with rfl | rfl | rfl
      · rw [if_pos rfl, if_neg (by decide), if_neg (by decide)]; omega
      · rw [if_neg (by decide), if_pos rfl, if_neg (by decide)]; omega
      · rw [if_neg (by decide), if_neg (by decide), if_pos rfl]; omega
    | none =>
      have h7 : pr S.fs k = 0 := by unfold pr; rw [hg]; rfl
      rcases hk with rfl | rfl | rfl
      · rw [if_pos rfl, if_neg (by decide), if_neg (by decide)]; omega
      · rw [if_neg (by decide), if_pos rfl, if_neg (by decide)]; omega
      · rw [if_neg (by decide), if_neg (by decide), if_pos rfl]; omega
  unfold layS
  rw [hF]
  exact ⟨⟨h.on, h.armed, h.room, by show Ytfjmmeefobkkiaa.used (put k F S.fs) ≤ _; omega, hlen⟩, hus⟩
theorem Three.stepE {S : Dk} {r : Int} (h : Three S r) : stepE S = 0 := by rw [Ytfjmmeefobkkiaa.stepE, if_neg (by rw [h.armed]; decide)]
theorem Three.stepS {S : Dk} {r : Int} (h : Three S r) : stepS S = S := by rw [Ytfjmmeefobkkiaa.stepS, if_neg (by rw [h.armed]; decide)]
def isABC (s : ByteArray) : Prop := s = nmA ∨ s = nmB ∨ s = nmC
theorem isABC.ok {s : ByteArray} (h : isABC s) : nameOk s = true := by rcases h with rfl | rfl | rfl <;> decide
theorem isABC.key {s : ByteArray} (h : isABC s) : s.data.toList = [97] ∨ s.data.toList = [98] ∨ s.data.toList = [99] := by
  rcases h with rfl | rfl | rfl
  · exact .inl rfl
  · exact .inr (.inl rfl)
  · exact .inr (.inr rfl)
theorem full_fits (N d : Nat) (S : Dk) (r : Int) (hc : Three S r) (s p : ByteArray) (hs : isABC s) (hp : p.size ≤ 140737488355328) (hu : used S.fs + p.size ≤ roomN r) (W : World) (h : DiskAt W N d S) :
    Calls Try.prog 11 #[.pointer (some ⟨d, 0, none⟩), .string s, .slice (some ⟨W.heap.size, 0, none⟩) 1 1] (W.alloc (.cells #[.string p] 9)) fun e w' => e = .returned (.int .i64 0) ∧ (∃ T, DiskAt w' N d T ∧ Three T r ∧ used T.fs = used S.fs + p.size) ∧ DUpd N W w' := by
  obtain ⟨c1, c2⟩ := hc.lay h.fine s.data.toList hs.key p hu
  have := app1 N d S s p hc.on hs.ok hp (by
    show decide _ = true
    rw [decide_eq_true_eq, hc.room]
    simp only [lens]; omega) hc.lt W h
  rw [hc.stepE, c1.stepS] at this
  exact this.mono fun e w' ⟨a, b, c⟩ => ⟨a, ⟨_, b, c1, c2⟩, c⟩
theorem full_not (N d : Nat) (S : Dk) (r : Int) (hc : Three S r) (s p : ByteArray) (hs : isABC s) (hp : p.size ≤ 140737488355328) (hu : ¬ used S.fs + p.size ≤ roomN r) (W : World) (h : DiskAt W N d S) :
    Calls Try.prog 11 #[.pointer (some ⟨d, 0, none⟩), .string s, .slice (some ⟨W.heap.size, 0, none⟩) 1 1] (W.alloc (.cells #[.string p] 9)) fun e w' => e = .returned (.int .i64 22) ∧ DiskAt w' N d S ∧ DUpd N W w' :=
  appF N d S s p hc.on hs.ok hp (by
    show decide _ = false
    rw [decide_eq_false_iff_not, hc.room]
    simp only [lens]; omega) hc.lt W h
theorem refRoom_any (r : Int) (w : World) : Calls Try.prog 21 #[.int .i64 r] w fun e w' => e = .returned (.int .i64 (roomN r : Int)) ∧ w' = w := by
  have h := roomN_int r
  generalize (roomN r : Int) = x at *
  by_cases h1 : r < 0
  · obtain rfl : x = 0 := by omega
    clear h
    go_enter Try.func21, Try.ntmps21
    go_wp2
    all_goals go_ret
    all_goals exact ⟨rfl, rfl⟩
  · by_cases h2 : (16777216 : Int) < r
    · obtain rfl : x = 16777216 := by omega
      clear h
      go_enter Try.func21, Try.ntmps21
      go_wp2
      all_goals go_ret
      all_goals exact ⟨rfl, rfl⟩
    · obtain rfl : r = x := by omega
      clear h
      go_enter Try.func21, Try.ntmps21
      go_wp2
      all_goals go_ret
      all_goals exact ⟨rfl, rfl⟩
theorem strs_abc (w : World) (N : Nat) : StrsAt (w.alloc (.cells #[.string ⟨#[97]⟩, .string ⟨#[98]⟩, .string ⟨#[99]⟩] 9)) N (some ⟨w.heap.size, 0, none⟩) [nmA, nmB, nmC] := by
  have h : Holds (w.alloc (.cells #[.string ⟨#[97]⟩, .string ⟨#[98]⟩, .string ⟨#[99]⟩] 9)) w.heap.size [.string ⟨#[97]⟩, .string ⟨#[98]⟩, .string ⟨#[99]⟩] 9 := holds_new w [.string ⟨#[97]⟩, .string ⟨#[98]⟩, .string ⟨#[99]⟩] 9
  refine .inr ⟨w.heap.size, 0, rfl, h.lt, .inr (h.foreign (by decide) (by decide) (by decide)), fun i x hi => ?_⟩
  match i, hi with
  | 0, hi => simp at hi; subst hi; exact h.at 0 _ rfl
  | 1, hi => simp at hi; subst hi; exact h.at 1 _ rfl
  | 2, hi => simp at hi; subst hi; exact h.at 2 _ rfl
  | i + 3, hi => simp at hi
end Go.Proofs.Ytfjmmeefobkkiaa
